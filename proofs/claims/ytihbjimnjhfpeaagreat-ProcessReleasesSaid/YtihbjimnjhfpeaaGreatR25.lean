/- Texts of this seat, one behind the other. -/
import Derived.Test.YtihbjimnjhfpeaaGreatR05
import Derived.Test.YtihbjimnjhfpeaaGreatR24
import Derived.Test.YtihbjimnjhfpeaaGreatR01
import Derived.Test.YtihbjimnjhfpeaaGreatR02
import Derived.Test.YtihbjimnjhfpeaaGreatR08
import Derived.Deep.DeepCutAuto
/- Lists of bodies: own ones and those that are read; an append at a step of a region that draws, in a fenced walk. -/
namespace Go.Proofs.YtihbjimnjhfpeaaGreat
open Go.RowKit Go.Shelf

/-- Where a body's temperatures lie. -/
structure Rw where
  b : Nat
  o : Nat
  c : Nat
def Rw.v (r : Rw) (q : Nat) : Value := .slice (some ⟨r.b, r.o, none⟩) q r.c
def bdvs (q : Nat) : List (Rw × Bd) → List Value
  | [] => []
  | y :: l => y.1.v q :: .bool y.2.2 :: bdvs q l
theorem bdvs_app (q : Nat) : ∀ l m, bdvs q (l ++ m) = bdvs q l ++ bdvs q m
  | [], m => rfl
  | y :: l, m => by simp only [bdvs, List.cons_append, bdvs_app q l m]
theorem bdvs_at (q : Nat) : ∀ (l : List (Rw × Bd)) (j : Nat) (h : j < l.length), (bdvs q l)[j * 2]? = some (l[j].1.v q) ∧ (bdvs q l)[j * 2 + 1]? = some (.bool l[j].2.2)
  | y :: l, 0, _ => by simp [bdvs]
  | y :: l, j + 1, h => by
    have ih := bdvs_at q l j (by simpa using h)
    have e : (j + 1) * 2 = j * 2 + 1 + 1 := by omega
    rw [e]
    simpa [bdvs] using ih
/-- A body's temperatures lie there. -/
structure RowAt (w : World) (q : Nat) (r : Rw) (T : List Int) : Prop where
  len : T.length = q
  at_ : ∀ j (h : j < T.length), w.cell? ⟨r.b, r.o + j, none⟩ = some (.int .i64 T[j])
  lt : r.b < w.heap.size
theorem RowAt.row {w : World} {q : Nat} {r : Rw} {T : List Int} (h : RowAt w q r T) (hq : q ≤ 1000) : RowI w (r.v q) T :=
  .inr ⟨r.b, r.o, r.c, by rw [h.len]; rfl, by rw [h.len]; unfold maxLen; omega, h.at_⟩
theorem RowAt.grow {w w' : World} {q : Nat} {r : Rw} {T : List Int} {row : Option Nat} (h : RowAt w q r T) (hg : w.grownBy w' row) (hne : row ≠ some r.b) : RowAt w' q r T :=
  ⟨h.len, fun j hj => (World.cell?_of_block (a := ⟨r.b, r.o + j, none⟩) (hg.block _ h.lt (fun e => hne e.symm))).trans (h.at_ j hj), Nat.lt_of_lt_of_le h.lt hg.size⟩
theorem RowAt.keep {w w' : World} {q : Nat} {r : Rw} {T : List Int} (h : RowAt w q r T) (hb : Below w.heap.size w w') : RowAt w' q r T :=
  ⟨h.len, fun j hj => keep_cell hb (h.at_ j hj), Nat.lt_of_lt_of_le h.lt hb.size⟩
/-- A list of bodies of one's own. -/
structure Bods (w : World) (base : Nat) (v : Value) (q : Nat) (l : List (Rw × Bd)) : Prop where
  own : w.ownsRow base 87 2 v l.length (bdvs q l)
  row : ∀ k (h : k < l.length), RowAt w q l[k].1 l[k].2.1 ∧ v.ownBlock ≠ some l[k].1.b
theorem Bods.nil (w : World) (base q : Nat) : Bods w base (.slice none 0 0) q [] := ⟨World.ownsRow_nil _ _ _ _, fun _ h => absurd h (Nat.not_lt_zero _)⟩
theorem Bods.keep {w w' : World} {base q : Nat} {v : Value} {l : List (Rw × Bd)} (h : Bods w base v q l) (hb : Below w.heap.size w w') : Bods w' base v q l := by
  refine ⟨⟨h.own.1, ?_⟩, fun k hk => ⟨(h.row k hk).1.keep hb, (h.row k hk).2⟩⟩
  rcases h.own.2 with hn | ⟨g, cap, cur, rfl, h1, hg, rest⟩
  · exact .inl hn
  · exact .inr ⟨g, cap, cur, rfl, h1, (hb.block _ (Array.getElem?_eq_some_iff.1 hg).1).trans hg, rest⟩
/-- Turned where neither the list's block nor those of its rows lie. -/
theorem Bods.turn {w w' : World} {base q : Nat} {v : Value} {l : List (Rw × Bd)} {row : Option Nat} (h : Bods w base v q l) (hg : w.grownBy w' row) (hr : ∀ j, row = some j → (∀ k (hk : k < l.length), l[k].1.b ≠ j) ∧ v.ownBlock ≠ some j) : Bods w' base v q l := by
  refine ⟨h.own.kept hg ?_, fun k hk => ⟨(h.row k hk).1.grow hg (fun e => (hr _ e).1 k hk rfl), (h.row k hk).2⟩⟩
  cases hb : v.ownBlock with
  | none => exact .inl rfl
  | some j => exact .inr (fun e => (hr j e.symm).2 hb)
theorem Bods.app {W W' : World} {base q : Nat} {v v' : Value} {l : List (Rw × Bd)} {r : Rw} {x : Bd} (h : Bods W base v q l) (hown : W'.ownsRow base 87 2 v' (l.length + 1) (bdvs q l ++ [r.v q, .bool x.2])) (hg : W.grownBy W' v.ownBlock) (hw : v'.ownBlock = v.ownBlock ∨ v'.ownBlock = some W.heap.size)
    (hr : RowAt W q r x.1) (hne : v.ownBlock ≠ some r.b) : Bods W' base v' q (l ++ [(r, x)]) := by
  have key : ∀ (r' : Rw) (T : List Int), RowAt W q r' T → v.ownBlock ≠ some r'.b → RowAt W' q r' T ∧ v'.ownBlock ≠ some r'.b := fun r' T h1 h2 => by
    refine ⟨h1.grow hg h2, ?_⟩
    rcases hw with e | e
    · rw [e]; exact h2
    · rw [e]; intro e2; have := h1.lt; injection e2 with e3; omega
  refine ⟨by rw [List.length_append, bdvs_app]; exact hown, fun k hk => ?_⟩
  rw [List.length_append, List.length_singleton] at hk
  by_cases e : k < l.length
  · rw [List.getElem_append_left e]; exact key _ _ (h.row k e).1 (h.row k e).2
  · obtain rfl : k = l.length := by omega
    rw [List.getElem_append_right (Nat.le_refl _)]
    simp only [Nat.sub_self, List.getElem_singleton]
    exact key _ _ hr hne
theorem Bods.shape {w : World} {base q : Nat} {v : Value} {l : List (Rw × Bd)} (h : Bods w base v q l) : ∃ a c, v = .slice a l.length c := by
  rcases h.own.2 with ⟨rfl, h0⟩ | ⟨g, cap, cur, rfl, _⟩
  · exact ⟨_, _, by rw [h0]⟩
  · exact ⟨_, _, rfl⟩
/-- A list of bodies that is read. -/
def RowBd (w : World) (v : Value) (L : List Bd) : Prop := ∃ a b o cap, v = .slice a L.length cap ∧ L.length ≤ maxLen ∧ (L = [] ∨ a = some ⟨b, o, none⟩) ∧ ∀ k (h : k < L.length), ∃ (ua : Option Addr) (uc : Nat), w.cell? ⟨b, o + k * 2, none⟩ = some (.slice ua L[k].1.length uc) ∧ w.cell? ⟨b, o + k * 2 + 1, none⟩ = some (.bool L[k].2) ∧ RowI w (.slice ua L[k].1.length uc) L[k].1
theorem RowBd.keep {w w' : World} {v : Value} {L : List Bd} (h : RowBd w v L) (hb : Below w.heap.size w w') : RowBd w' v L := by
  obtain ⟨a, b, o, cap, h1, h2, h3, h4⟩ := h
  refine ⟨a, b, o, cap, h1, h2, h3, fun k hk => ?_⟩
  obtain ⟨ua, uc, g1, g2, g3⟩ := h4 k hk
  exact ⟨ua, uc, keep_cell hb g1, keep_cell hb g2, g3.keep hb⟩
theorem Bods.at_ {w : World} {base q : Nat} {a : Option Addr} {n c : Nat} {l : List (Rw × Bd)} (h : Bods w base (.slice a n c) q l) (h0 : 0 < l.length) : ∃ g, a = some ⟨g, 0, none⟩ ∧ base ≤ g ∧ g < w.heap.size ∧ ∀ k (hk : k < l.length), w.cell? ⟨g, k * 2, none⟩ = some (l[k].1.v q) ∧ w.cell? ⟨g, k * 2 + 1, none⟩ = some (.bool l[k].2.2) := by
  rcases h.own.2 with ⟨hn, hz⟩ | ⟨g, cap, cur, hv, hb, hg, hcap, hmx, hcs, ht⟩
  · omega
  · injection hv with e1 e2 e3
    refine ⟨g, e1, hb, lt_of_block hg, fun k hk => ?_⟩
    obtain ⟨h1, h2⟩ := bdvs_at q l k hk
    rw [← ht] at h1 h2
    rw [List.getElem?_take_of_lt (by omega)] at h1 h2
    refine ⟨?_, ?_⟩ <;> rw [cell_of_row w g _ cur _ _ hg]
    · simpa using h1
    · simpa using h2
theorem Bods.read {w : World} {base q : Nat} {v : Value} {l : List (Rw × Bd)} (h : Bods w base v q l) (hq : q ≤ 1000) (hl : l.length ≤ 1000000) : RowBd w v (l.map (·.2)) := by
  obtain ⟨a, c, rfl⟩ := h.shape
  rcases Nat.eq_zero_or_pos l.length with h0 | h0
  · have : l = [] := List.length_eq_zero_iff.1 h0
    subst this
    exact ⟨a, 0, 0, c, rfl, by simp [maxLen], .inl rfl, fun k h => absurd h (Nat.not_lt_zero _)⟩
  · obtain ⟨g, rfl, _, _, hc⟩ := h.at_ h0
    refine ⟨_, g, 0, c, by rw [List.length_map], by rw [List.length_map]; unfold maxLen; omega, .inr rfl, fun k hk => ?_⟩
    rw [List.length_map] at hk
    obtain ⟨c1, c2⟩ := hc k hk
    have hr := (h.row k hk).1
    simp only [List.getElem_map, Nat.zero_add]
    refine ⟨some ⟨l[k].1.b, l[k].1.o, none⟩, l[k].1.c, ?_, c2, ?_⟩
    · rw [c1, hr.len]; rfl
    · rw [hr.len]; exact hr.row hq
end Go.Proofs.YtihbjimnjhfpeaaGreat

/- The reference's After in plain words: what it reads, what it makes of a place, the temperatures as far as a place. -/
namespace Go.Proofs.YtihbjimnjhfpeaaGreat

/-- The four places about a place, as the reference reads them. -/
def inV (R : Nat) (T : List Int) (r l : Nat) : Int := if 0 < r then T.getD (l * R + r - 1) 0 else 0
def outV (R : Nat) (T : List Int) (b : Int) (r l : Nat) : Int := if r + 1 < R then T.getD (l * R + r + 1) 0 else b
def lowV (R : Nat) (T : List Int) (b : Int) (r l : Nat) : Int := if 0 < l then T.getD ((l - 1) * R + r) 0 else b
def highV (R L : Nat) (T : List Int) (b : Int) (r l : Nat) : Int := if l + 1 < L then T.getD ((l + 1) * R + r) 0 else b
/-- The temperatures behind a tick, of the first n places. -/
def tickN (R L : Nat) (A B : Int) (T : List Int) (b : Int) (n : Nat) : List Int := (List.range n).map fun i => mixT R L A B T b (i % R) (i / R)
end Go.Proofs.YtihbjimnjhfpeaaGreat

/- How many ticks in a constant bath it takes, in plain words. -/
namespace Go.Proofs.YtihbjimnjhfpeaaGreat

/-- The body behind n ticks in a constant bath, and its least temperature. -/
def stepN (c : Cn) (x : Bd) (b : Int) (n : Nat) : Bd := runS c x (List.replicate n b)
def coldN (c : Cn) (x : Bd) (b : Int) (n : Nat) : Int := minT (stepN c x b n).1
/-- The first number, from n, that serves. -/
def firstN (P : Nat → Bool) : Nat → Nat → Option Nat
  | 0, _ => none
  | f + 1, n => if P n then some n else firstN P f (n + 1)
/-- Until's answer where nothing is wrong. -/
def untV (c : Cn) (x : Bd) (b t : Int) : Int × Int := match firstN (fun n => decide (t ≤ coldN c x b n)) 2001 0 with | some n => ((n : Int), 0) | none => (0, 8)
/-- Until's answer, with its errors. -/
def untO (r l a b k a2 b2 : Int) (x : Bd) (bath t : Int) : Int × Int :=
  if bothB r l a b k a2 b2 x.1 x.2 then (if okT bath && okT t then untV ⟨r.toNat, l.toNat, a, b, k, a2, b2⟩ x bath t else (0, 7)) else (0, 1)
end Go.Proofs.YtihbjimnjhfpeaaGreat

/- Walk of Shifted of the reference: contract. -/
namespace Go.Proofs.YtihbjimnjhfpeaaGreat
open Go.RowKit

/-- Four boxes behind one another: a can, a body, the body that comes back, the body that is filled. -/
structure R4 (w : World) (n8 : Nat) (w1 : World) (A B R S : Array Value) : Prop where
  can : w1.heap[w.heap.size]? = some (.cells A 23 (0, 0))
  bod : w1.heap[w.heap.size + 1]? = some (.cells B 87 (0, 0))
  res : w1.heap[w.heap.size + 1 + 1]? = some (.cells R 87 (0, 0))
  out : w1.heap[n8]? = some (.cells S 87 (0, 0))
  h8 : w.heap.size + 1 + 1 < n8
  low : Below w.heap.size w w1
/-- The same, whatever the filled body's slice is. -/
def R4e (w : World) (n8 : Nat) (w1 : World) (A B : Array Value) (br : Value) : Prop := ∃ u0, R4 w n8 w1 A B #[.slice none 0 0, .bool false] #[u0, br]
section
variable {w W W' : World} {n8 : Nat} {A B R S : Array Value} {br u0 u : Value}
theorem R4.app {v v' : Value} {xs : List Value} {l : List Int} (h : R4 w n8 W A B R S) (hown : W.ownsRow (n8 + 1) 3 1 v xs.length xs) (hA : AppP W (n8 + 1) 3 v xs l v' W') : R4 w n8 W' A B R S := by
  have hne : ∀ b, b < n8 + 1 → some b ≠ v.ownBlock := fun b hb e => by have := (World.ownsRow.lt hown b e.symm).1; omega
  have h8 := h.h8
  exact ⟨(hA.2.1.block _ (lt_of_block h.can) (hne _ (by omega))).trans h.can, (hA.2.1.block _ (lt_of_block h.bod) (hne _ (by omega))).trans h.bod, (hA.2.1.block _ (lt_of_block h.res) (hne _ (by omega))).trans h.res, (hA.2.1.block _ (lt_of_block h.out) (hne _ (by omega))).trans h.out, h8, h.low.grown hA.2.1 h.low.size (fun k hk => by have := (World.ownsRow.lt hown k hk).1; omega)⟩
theorem R4.keep (h : R4 w n8 W A B R S) (hb : Below W.heap.size W W') : R4 w n8 W' A B R S :=
  ⟨(hb.block _ (lt_of_block h.can)).trans h.can, (hb.block _ (lt_of_block h.bod)).trans h.bod, (hb.block _ (lt_of_block h.res)).trans h.res, (hb.block _ (lt_of_block h.out)).trans h.out, h.h8, bstep h.low h.low.size hb⟩
theorem R4.r3 (h : R4 w n8 W A B R S) : R3 w W A B R := ⟨h.can, h.bod, h.res, h.low⟩
theorem R4e.keep (h : R4e w n8 W A B br) (hb : Below W.heap.size W W') : R4e w n8 W' A B br := by obtain ⟨u, h⟩ := h; exact ⟨u, h.keep hb⟩
theorem R4e.app {v v' : Value} {xs : List Value} {l : List Int} (h : R4e w n8 W A B br) (hown : W.ownsRow (n8 + 1) 3 1 v xs.length xs) (hA : AppP W (n8 + 1) 3 v xs l v' W') : R4e w n8 W' A B br := by obtain ⟨u, h⟩ := h; exact ⟨u, h.app hown hA⟩
theorem R4e.low (h : R4e w n8 W A B br) : Below w.heap.size w W := by obtain ⟨u, h⟩ := h; exact h.low
end
theorem R4.facts {w W : World} {n8 : Nat} {A : Array Value} {b0 b1 d0 d1 e0 e1 : Value} (h : R4 w n8 W A #[b0, b1] #[d0, d1] #[e0, e1]) :
    W.cell? ⟨w.heap.size + 1, 0, none⟩ = some b0 ∧ W.cell? ⟨w.heap.size + 1, 1, none⟩ = some b1 ∧ W.cell? ⟨w.heap.size + 1 + 1, 0, none⟩ = some d0 ∧ W.cell? ⟨w.heap.size + 1 + 1, 1, none⟩ = some d1 ∧ W.frozen? ⟨w.heap.size + 1 + 1, 0, none⟩ = false ∧ W.frozen? ⟨w.heap.size + 1 + 1, 1, none⟩ = false ∧
    W.cell? ⟨n8, 0, none⟩ = some e0 ∧ W.cell? ⟨n8, 1, none⟩ = some e1 ∧ W.frozen? ⟨n8, 0, none⟩ = false ∧ W.frozen? ⟨n8, 1, none⟩ = false ∧ n8 < W.heap.size :=
  ⟨cell_of_row _ _ 0 _ _ _ h.bod, cell_of_row _ _ 1 _ _ _ h.bod, cell_of_row _ _ 0 _ _ _ h.res, cell_of_row _ _ 1 _ _ _ h.res, frozen_of_row _ _ 0 _ _ h.res, frozen_of_row _ _ 1 _ _ h.res, cell_of_row _ _ 0 _ _ _ h.out, cell_of_row _ _ 1 _ _ _ h.out, frozen_of_row _ _ 0 _ _ h.out, frozen_of_row _ _ 1 _ _ h.out, lt_of_block h.out⟩

/-- What the region of the append stands on. -/
def RawSh (w : World) (n8 b' o' n cap len : Nat) (t : Int) (A : Array Value) (br : Bool) (w1 : World) : Prop := w1.cell? ⟨w.heap.size + 1, 0, none⟩ = some (.slice (some ⟨b', o', none⟩) len cap) ∧ w1.cell? ⟨b', o' + n, none⟩ = some (.int .i64 t) ∧ R4e w n8 w1 A #[.slice (some ⟨b', o', none⟩) len cap, .bool br] (.bool br)
end Go.Proofs.YtihbjimnjhfpeaaGreat
