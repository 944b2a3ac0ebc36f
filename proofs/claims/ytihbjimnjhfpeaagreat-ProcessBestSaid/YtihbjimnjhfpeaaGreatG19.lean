/- Texts of this seat, one behind the other. -/
import Derived.Test.YtihbjimnjhfpeaaGreatG09
import Derived.Test.YtihbjimnjhfpeaaGreatG18
import Derived.Test.YtihbjimnjhfpeaaGreatG01
import Derived.Test.YtihbjimnjhfpeaaGreatG10
import Derived.Deep.DeepCutAuto
/- Plain facts of the reference's run of a can: its body, what each place has got (down and up), the sum of the coldest temperatures' rates. -/
namespace Go.Proofs.YtihbjimnjhfpeaaGreat
open Go.RowKit

structure Rs where
  x : Bd
  d : List Nat
  u : List Nat
  k : Nat
def rsT (c : Cn) (f g : Int → Nat) (s : Rs) (b : Int) : Rs := ⟨tickS c s.x b, addD f s.d (tickS c s.x b).1, addD g s.u (tickS c s.x b).1, Lt.cutN s.k (f (minT (tickS c s.x b).1))⟩
def rsR (c : Cn) (f g : Int → Nat) (s : Rs) (l : List Int) : Rs := l.foldl (rsT c f g) s
def rs0 (c : Cn) (t : Int) : Rs := ⟨evB c t, List.replicate c.P 0, List.replicate c.P 0, 0⟩
theorem rsR_nil (c : Cn) (f g : Int → Nat) (s : Rs) : rsR c f g s [] = s := rfl
theorem rsR_append (c : Cn) (f g : Int → Nat) (s : Rs) (l m : List Int) : rsR c f g s (l ++ m) = rsR c f g (rsR c f g s l) m := List.foldl_append
theorem rsR_succ (c : Cn) (f g : Int → Nat) (s : Rs) (l : List Int) (k : Nat) (hk : k < l.length) : rsR c f g s (l.take (k + 1)) = rsT c f g (rsR c f g s (l.take k)) l[k] := by
  rw [List.take_add_one, rsR_append]
  simp [hk, rsR]
theorem rsR_d (c : Cn) (f g : Int → Nat) : ∀ (l : List Int) (s : Rs), ((rsR c f g s l).x, (rsR c f g s l).d) = dishR c f (s.x, s.d) l
  | [], _ => rfl
  | b :: l, s => rsR_d c f g l (rsT c f g s b)
theorem rsR_u (c : Cn) (f g : Int → Nat) : ∀ (l : List Int) (s : Rs), ((rsR c f g s l).x, (rsR c f g s l).u) = dishR c g (s.x, s.u) l
  | [], _ => rfl
  | b :: l, s => rsR_u c f g l (rsT c f g s b)
theorem rsR_down (c : Cn) (f g : Int → Nat) (t : Int) (l : List Int) : (rsR c f g (rs0 c t) l).d = (dishR c f (dish0 c t) l).2 := congrArg Prod.snd (rsR_d c f g l (rs0 c t))
theorem rsR_up (c : Cn) (f g : Int → Nat) (t : Int) (l : List Int) : (rsR c f g (rs0 c t) l).u = (dishR c g (dish0 c t) l).2 := congrArg Prod.snd (rsR_u c f g l (rs0 c t))
/-- The run has a temperature and two sums for each place. -/
structure GoodR (c : Cn) (s : Rs) : Prop where
  down : Good c (s.x, s.d)
  up : Good c (s.x, s.u)
  kle : s.k ≤ 1000000000000000000
theorem rs0_good {c : Cn} {t : Int} (h : okT t = true) : GoodR c (rs0 c t) := ⟨dish0_good h, dish0_good h, Nat.zero_le _⟩
theorem GoodR.tick {c : Cn} {f g : Int → Nat} {s : Rs} {b : Int} (hc : c.Ok) (h : GoodR c s) (hb : okT b = true) : GoodR c (rsT c f g s b) :=
  ⟨h.down.tick hc hb, h.up.tick hc hb, cutN_le _ _⟩
theorem GoodR.run {c : Cn} {f g : Int → Nat} {s : Rs} {l : List Int} (hc : c.Ok) (h : GoodR c s) (hl : okL l = true) : GoodR c (rsR c f g s l) := by
  induction l generalizing s with
  | nil => exact h
  | cons b l ih =>
    unfold okL at hl
    rw [List.all_cons, Bool.and_eq_true] at hl
    exact ih (h.tick hc hl.1) hl.2
theorem GoodR.warm {c : Cn} {s : Rs} (h : GoodR c s) : Warm c (s.x.1, s.x.2) := by
  obtain ⟨h1, _, h3⟩ := bodyV_iff.1 h.down.body
  exact ⟨h1, okL_bd h3⟩
theorem okL_take {l : List Int} (h : okL l = true) (k : Nat) : okL (l.take k) = true :=
  List.all_eq_true.2 fun x hx => List.all_eq_true.1 h x (List.mem_of_mem_take hx)
theorem addD_take {f : Int → Nat} {S : List Nat} {T : List Int} {k : Nat} (h1 : k < S.length) (h2 : k < T.length) : (addD f S T).take (k + 1) = (addD f S T).take k ++ [Lt.cutN S[k] (f T[k])] := by
  have hk : k < (addD f S T).length := by simp [addD]; omega
  rw [List.take_add_one, List.getElem?_eq_getElem hk, addD_get hk h1 h2]
  rfl
/-- The first of the least sums. -/
theorem best_all (S : List Int) (k : Nat) : (∀ i (h : i < S.length), i < k → (bestT ltB S k).2 ≤ S[i]) ∧ (k ≤ S.length → 0 < S.length → ∀ i (h : i < S.length), i < (bestT ltB S k).1 → (bestT ltB S k).2 < S[i]) := by
  induction k with
  | zero => exact ⟨fun i _ h => by omega, fun _ _ i _ h => by simp [bestT] at h⟩
  | succ k ih =>
    refine ⟨fun i h hi => ?_, fun hk h0 i h hi => ?_⟩
    · rcases Nat.lt_or_ge i k with h1 | h1
      · have := ih.1 i h h1
        unfold bestT
        split
        · rename_i g
          simp only [ltB, decide_eq_true_eq] at g
          dsimp only; omega
        · exact this
      · obtain rfl : i = k := by omega
        unfold bestT
        rw [getD_at h]
        split
        · exact Int.le_refl _
        · rename_i g
          simp only [ltB, decide_eq_true_eq] at g
          omega
    · unfold bestT at hi ⊢
      rw [getD_at (by omega : k < S.length)] at hi ⊢
      split at hi
      · rename_i g
        rw [if_pos g]
        simp only [ltB, decide_eq_true_eq] at g
        have := ih.1 i h hi
        dsimp only; omega
      · rename_i g
        rw [if_neg g]
        exact ih.2 (by omega) h0 i h hi
theorem best_min {S : List Int} (h0 : 0 < S.length) : (bestT ltB S S.length).2 = minA S ∧ (bestT ltB S S.length).1 = idxA S (minA S) := by
  obtain ⟨h1, h2⟩ := bestT_at ltB S S.length (Nat.le_refl _) h0
  have hb := best_all S S.length
  have e1 : (bestT ltB S S.length).2 = minA S := minA_uniq (by rw [← h2, getD_at h1]; exact List.getElem_mem _) fun x hx => by
    obtain ⟨i, hi, rfl⟩ := List.getElem_of_mem hx
    exact hb.1 i hi hi
  refine ⟨e1, ?_⟩
  have hlt : idxA S (minA S) < S.length := List.findIdx_lt_length_of_exists ⟨minA S, minA_mem h0, by simp⟩
  have hget : S[idxA S (minA S)] = minA S := by
    have h1 := List.findIdx_getElem (p := fun y => y == minA S) (xs := S) (w := hlt)
    simp only [beq_iff_eq] at h1
    exact h1
  rcases Nat.lt_trichotomy (bestT ltB S S.length).1 (idxA S (minA S)) with g | g | g
  · exfalso
    have := List.not_of_lt_findIdx g
    rw [getD_at h1, e1] at h2
    simp [h2] at this
  · exact g
  · exfalso
    have := hb.2 (Nat.le_refl _) h0 _ hlt g
    rw [hget, e1] at this
    omega
end Go.Proofs.YtihbjimnjhfpeaaGreat

/- The reference's After in plain words: what it reads, what it makes of a place, the temperatures as far as a place. -/
namespace Go.Proofs.YtihbjimnjhfpeaaGreat

/-- The four places about a place, as the reference reads them. -/
def inV (R : Nat) (T : List Int) (r l : Nat) : Int := if 0 < r then T.getD (l * R + r - 1) 0 else 0
def outV (R : Nat) (T : List Int) (b : Int) (r l : Nat) : Int := if r + 1 < R then T.getD (l * R + r + 1) 0 else b
def lowV (R : Nat) (T : List Int) (b : Int) (r l : Nat) : Int := if 0 < l then T.getD ((l - 1) * R + r) 0 else b
def highV (R L : Nat) (T : List Int) (b : Int) (r l : Nat) : Int := if l + 1 < L then T.getD ((l + 1) * R + r) 0 else b
theorem near_at {R L : Nat} {T : List Int} {b : Int} {p q : Nat} (hp : p < R) (hq : q < L) : nearT R L T b (p : Int) (q : Int) = T.getD (q * R + p) 0 := by
  rw [nearT_in ⟨by omega, by omega, by omega, by omega⟩, ← Int.natCast_mul, ← Int.natCast_add, Int.toNat_natCast]
theorem mix_ref {R L : Nat} {A B : Int} {T : List Int} {b : Int} {r l : Nat} (hr : r < R) (hl : l < L) :
    mixT R L A B T b r l = (2 * A * r * inV R T r l + 2 * A * (r + 1) * outV R T b r l + (2 * r + 1) * (B * lowV R T b r l + B * highV R L T b r l + (1000 - 2 * A - 2 * B) * T.getD (l * R + r) 0)) / (1000 * (2 * r + 1)) := by
  have h5 : nearT R L T b r l = T.getD (l * R + r) 0 := near_at hr hl
  have h2 : nearT R L T b ((r : Int) + 1) l = outV R T b r l := by
    unfold outV
    by_cases h : r + 1 < R
    · rw [if_pos h, show (r : Int) + 1 = ((r + 1 : Nat) : Int) by omega, near_at h hl, Nat.add_assoc]
    · rw [if_neg h, nearT_out (by omega)]
  have h3 : nearT R L T b r ((l : Int) - 1) = lowV R T b r l := by
    unfold lowV
    by_cases h : 0 < l
    · rw [if_pos h, show (l : Int) - 1 = ((l - 1 : Nat) : Int) by omega, near_at hr (by omega)]
    · rw [if_neg h, nearT_out (by omega)]
  have h4 : nearT R L T b r ((l : Int) + 1) = highV R L T b r l := by
    unfold highV
    by_cases h : l + 1 < L
    · rw [if_pos h, show (l : Int) + 1 = ((l + 1 : Nat) : Int) by omega, near_at hr h]
    · rw [if_neg h, nearT_out (by omega)]
  have h1 : (r : Int) * nearT R L T b ((r : Int) - 1) l = r * inV R T r l := by
    unfold inV
    by_cases h : 0 < r
    · rw [if_pos h, show (r : Int) - 1 = ((r - 1 : Nat) : Int) by omega, near_at (show r - 1 < R by omega) hl, show l * R + (r - 1) = l * R + r - 1 by omega]
    · obtain rfl : r = 0 := by omega
      simp
  unfold mixT num
  rw [h1, h2, h3, h4, h5]
  congr 1
  grind
/-- The temperatures behind a tick, of the first n places. -/
def tickN (R L : Nat) (A B : Int) (T : List Int) (b : Int) (n : Nat) : List Int := (List.range n).map fun i => mixT R L A B T b (i % R) (i / R)
theorem tickN_all (R L : Nat) (A B : Int) (T : List Int) (b : Int) : tickN R L A B T b (R * L) = tickT R L A B T b := rfl
theorem tickN_len (R L : Nat) (A B : Int) (T : List Int) (b : Int) (n : Nat) : (tickN R L A B T b n).length = n := by simp [tickN]
theorem tickN_succ {R L : Nat} {A B : Int} {T : List Int} {b : Int} {r l : Nat} (hr : r < R) : tickN R L A B T b (l * R + r + 1) = tickN R L A B T b (l * R + r) ++ [mixT R L A B T b r l] := by
  have e1 : (l * R + r) / R = l := by rw [Nat.add_comm, Nat.add_mul_div_right _ _ (by omega), Nat.div_eq_of_lt hr, Nat.zero_add]
  have e2 : (l * R + r) % R = r := by rw [Nat.add_comm, Nat.add_mul_mod_self_right, Nat.mod_eq_of_lt hr]
  unfold tickN
  rw [List.range_succ, List.map_append]
  simp [e1, e2]
theorem getD_bd {T : List Int} (hT : ∀ x ∈ T, -50000 ≤ x ∧ x ≤ 200000) (j : Nat) : -50000 ≤ T.getD j 0 ∧ T.getD j 0 ≤ 200000 := by
  by_cases h : j < T.length
  · rw [getD_at h]; exact hT _ (List.getElem_mem _)
  · rw [List.getD_eq_getElem?_getD, List.getElem?_eq_none (by omega)]; simp
theorem inV_bd {R : Nat} {T : List Int} (hT : ∀ x ∈ T, -50000 ≤ x ∧ x ≤ 200000) (r l : Nat) : -50000 ≤ inV R T r l ∧ inV R T r l ≤ 200000 := by
  unfold inV; split
  · exact getD_bd hT _
  · omega
theorem outV_bd {R : Nat} {T : List Int} {b : Int} (hT : ∀ x ∈ T, -50000 ≤ x ∧ x ≤ 200000) (h : -50000 ≤ b ∧ b ≤ 200000) (r l : Nat) : -50000 ≤ outV R T b r l ∧ outV R T b r l ≤ 200000 := by
  unfold outV; split
  · exact getD_bd hT _
  · exact h
theorem lowV_bd {R : Nat} {T : List Int} {b : Int} (hT : ∀ x ∈ T, -50000 ≤ x ∧ x ≤ 200000) (h : -50000 ≤ b ∧ b ≤ 200000) (r l : Nat) : -50000 ≤ lowV R T b r l ∧ lowV R T b r l ≤ 200000 := by
  unfold lowV; split
  · exact getD_bd hT _
  · exact h
theorem highV_bd {R L : Nat} {T : List Int} {b : Int} (hT : ∀ x ∈ T, -50000 ≤ x ∧ x ≤ 200000) (h : -50000 ≤ b ∧ b ≤ 200000) (r l : Nat) : -50000 ≤ highV R L T b r l ∧ highV R L T b r l ≤ 200000 := by
  unfold highV; split
  · exact getD_bd hT _
  · exact h
end Go.Proofs.YtihbjimnjhfpeaaGreat

/- Walk of Shifted of the reference: contract. -/
namespace Go.Proofs.YtihbjimnjhfpeaaGreat
open Go.RowKit

/-- Four boxes behind one another: a can, a body, the body that comes back, the body that is filled. -/
structure R4 (w : World) (n8 : Nat) (w1 : World) (A B R S : Array Value) : Prop where
  can : w1.heap[w.heap.size]? = some (.cells A 23 (0, 0))
  bod : w1.heap[w.heap.size + 1]? = some (.cells B 87 (0, 0))
  res : w1.heap[w.heap.size + 1 + 1]? = some (.cells R 87 (0, 0))
  out : w1.heap[n8]? = some (.cells S 87 (0, 0))
  h8 : w.heap.size + 1 + 1 < n8
  low : Below w.heap.size w w1
/-- The same, whatever the filled body's slice is. -/
def R4e (w : World) (n8 : Nat) (w1 : World) (A B : Array Value) (br : Value) : Prop := ∃ u0, R4 w n8 w1 A B #[.slice none 0 0, .bool false] #[u0, br]
section
variable {w W W' : World} {n8 : Nat} {A B R S : Array Value} {br u0 u : Value}
theorem R4.app {v v' : Value} {xs : List Value} {l : List Int} (h : R4 w n8 W A B R S) (hown : W.ownsRow (n8 + 1) 3 1 v xs.length xs) (hA : AppP W (n8 + 1) 3 v xs l v' W') : R4 w n8 W' A B R S := by
  have hne : ∀ b, b < n8 + 1 → some b ≠ v.ownBlock := fun b hb e => by have := (World.ownsRow.lt hown b e.symm).1; omega
  have h8 := h.h8
  exact ⟨(hA.2.1.block _ (lt_of_block h.can) (hne _ (by omega))).trans h.can, (hA.2.1.block _ (lt_of_block h.bod) (hne _ (by omega))).trans h.bod, (hA.2.1.block _ (lt_of_block h.res) (hne _ (by omega))).trans h.res, (hA.2.1.block _ (lt_of_block h.out) (hne _ (by omega))).trans h.out, h8, h.low.grown hA.2.1 h.low.size (fun k hk => by have := (World.ownsRow.lt hown k hk).1; omega)⟩
theorem R4.keep (h : R4 w n8 W A B R S) (hb : Below W.heap.size W W') : R4 w n8 W' A B R S :=
  ⟨(hb.block _ (lt_of_block h.can)).trans h.can, (hb.block _ (lt_of_block h.bod)).trans h.bod, (hb.block _ (lt_of_block h.res)).trans h.res, (hb.block _ (lt_of_block h.out)).trans h.out, h.h8, bstep h.low h.low.size hb⟩
theorem R4.set0 (h : R4 w n8 W A B R #[u0, br]) : R4 w n8 (W.setCell ⟨n8, 0, none⟩ u) A B R #[u, br] := by
  have h8 := h.h8
  exact ⟨(heap_setCell_other _ _ _ _ (show w.heap.size ≠ n8 by omega)).trans h.can, (heap_setCell_other _ _ _ _ (show w.heap.size + 1 ≠ n8 by omega)).trans h.bod, (heap_setCell_other _ _ _ _ (show w.heap.size + 1 + 1 ≠ n8 by omega)).trans h.res, heap_setCell_same W n8 0 _ _ u h.out, h8, h.low.setCell (p := ⟨n8, 0, none⟩) (by show w.heap.size ≤ n8; omega) u⟩
theorem R4.r3 (h : R4 w n8 W A B R S) : R3 w W A B R := ⟨h.can, h.bod, h.res, h.low⟩
theorem R4e.keep (h : R4e w n8 W A B br) (hb : Below W.heap.size W W') : R4e w n8 W' A B br := by obtain ⟨u, h⟩ := h; exact ⟨u, h.keep hb⟩
theorem R4e.set0 (h : R4e w n8 W A B br) : R4e w n8 (W.setCell ⟨n8, 0, none⟩ u) A B br := by obtain ⟨u', h⟩ := h; exact ⟨u, h.set0⟩
theorem R4e.app {v v' : Value} {xs : List Value} {l : List Int} (h : R4e w n8 W A B br) (hown : W.ownsRow (n8 + 1) 3 1 v xs.length xs) (hA : AppP W (n8 + 1) 3 v xs l v' W') : R4e w n8 W' A B br := by obtain ⟨u, h⟩ := h; exact ⟨u, h.app hown hA⟩
theorem R4e.low (h : R4e w n8 W A B br) : Below w.heap.size w W := by obtain ⟨u, h⟩ := h; exact h.low
end
theorem R4.facts {w W : World} {n8 : Nat} {A : Array Value} {b0 b1 d0 d1 e0 e1 : Value} (h : R4 w n8 W A #[b0, b1] #[d0, d1] #[e0, e1]) :
    W.cell? ⟨w.heap.size + 1, 0, none⟩ = some b0 ∧ W.cell? ⟨w.heap.size + 1, 1, none⟩ = some b1 ∧ W.cell? ⟨w.heap.size + 1 + 1, 0, none⟩ = some d0 ∧ W.cell? ⟨w.heap.size + 1 + 1, 1, none⟩ = some d1 ∧ W.frozen? ⟨w.heap.size + 1 + 1, 0, none⟩ = false ∧ W.frozen? ⟨w.heap.size + 1 + 1, 1, none⟩ = false ∧
    W.cell? ⟨n8, 0, none⟩ = some e0 ∧ W.cell? ⟨n8, 1, none⟩ = some e1 ∧ W.frozen? ⟨n8, 0, none⟩ = false ∧ W.frozen? ⟨n8, 1, none⟩ = false ∧ n8 < W.heap.size :=
  ⟨cell_of_row _ _ 0 _ _ _ h.bod, cell_of_row _ _ 1 _ _ _ h.bod, cell_of_row _ _ 0 _ _ _ h.res, cell_of_row _ _ 1 _ _ _ h.res, frozen_of_row _ _ 0 _ _ h.res, frozen_of_row _ _ 1 _ _ h.res, cell_of_row _ _ 0 _ _ _ h.out, cell_of_row _ _ 1 _ _ _ h.out, frozen_of_row _ _ 0 _ _ h.out, frozen_of_row _ _ 1 _ _ h.out, lt_of_block h.out⟩

theorem okL_map_bad {T : List Int} {s : Int} {n : Nat} (h : n < T.length) (g : okT (T[n] + s) = false) : okL (T.map (· + s)) = false := okL_bad (k := n) (by rw [List.length_map]; exact h) (by rw [List.getElem_map]; exact g)
theorem okL_map_step {T : List Int} {s : Int} {n : Nat} (h : n < T.length) (g : okL ((T.take n).map (· + s)) = true) (g2 : okT (T[n] + s) = true) : okL ((T.take (n + 1)).map (· + s)) = true := by
  rw [show T.take (n + 1) = T.take n ++ [T[n]] by rw [List.take_add_one, List.getElem?_eq_getElem h]; rfl, List.map_append, okL_append, g]
  simp [okL, g2]
theorem map_step {T : List Int} {s : Int} {n : Nat} (h : n < T.length) : (T.take n).map (· + s) ++ [T[n] + s] = (T.take (n + 1)).map (· + s) := by
  rw [show T.take (n + 1) = T.take n ++ [T[n]] by rw [List.take_add_one, List.getElem?_eq_getElem h]; rfl, List.map_append]
  rfl
/-- What the region of the append stands on. -/
def RawSh (w : World) (n8 b' o' n cap len : Nat) (t : Int) (A : Array Value) (br : Bool) (w1 : World) : Prop := w1.cell? ⟨w.heap.size + 1, 0, none⟩ = some (.slice (some ⟨b', o', none⟩) len cap) ∧ w1.cell? ⟨b', o' + n, none⟩ = some (.int .i64 t) ∧ R4e w n8 w1 A #[.slice (some ⟨b', o', none⟩) len cap, .bool br] (.bool br)
theorem rawSh {w W : World} {n8 b' o' n cap len : Nat} {t : Int} {A : Array Value} {br : Bool} (hx : ∀ w1, Below w.heap.size w w1 → w1.cell? ⟨b', o' + n, none⟩ = some (.int .i64 t)) (h : R4e w n8 W A #[.slice (some ⟨b', o', none⟩) len cap, .bool br] (.bool br)) : RawSh w n8 b' o' n cap len t A br W :=
  ⟨by obtain ⟨u, h⟩ := h; exact cell_of_row _ _ 0 _ _ _ h.bod, hx _ h.low, h⟩
end Go.Proofs.YtihbjimnjhfpeaaGreat
