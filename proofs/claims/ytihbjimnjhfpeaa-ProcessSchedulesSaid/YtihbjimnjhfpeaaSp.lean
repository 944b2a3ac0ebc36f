/- Walk of total of package lethal: contract. -/
import Derived.Test.YtihbjimnjhfpeaaSn
namespace Go.Proofs.Ytihbjimnjhfpeaa.Lt
open Go.RowKit Go.Lib Go.Maps Go.Shelf
attribute [local go_sem] Oper.semAt_some


/-- The last sum. -/
def lastS (xs : List (Nat × Nat)) : Nat := match xs.getLast? with | some x => x.2 | none => 0
theorem lastS_succ {xs : List (Nat × Nat)} {k : Nat} {x : Nat × Nat} (h : xs[k]? = some x) : lastS (xs.take (k + 1)) = x.2 := by
  unfold lastS; rw [List.take_add_one, h]; simp
theorem lastS_all (f : Int → Nat) (l : List Int) : lastS (seqS f l) = sumL f l := by
  rcases Nat.eq_zero_or_pos l.length with h | h
  · rw [List.length_eq_zero_iff.1 h]; rfl
  · obtain ⟨k, hk⟩ : ∃ k, l.length = k + 1 := ⟨l.length - 1, by omega⟩
    have h1 := lastS_succ (seqS_get f l k (by omega))
    rw [List.take_of_length_le (by rw [seqS_len]; omega), List.take_of_length_le (by omega)] at h1
    exact h1
/-- What a round of total's body keeps: every block of the n0 first but its own. -/
def KpT (n0 x0 : Nat) (W W' : World) : Prop := W.heap.size ≤ W'.heap.size ∧ ∀ j, j < n0 → j ≠ x0 → W'.heap[j]? = W.heap[j]?
theorem KpT.trans {n0 x0 : Nat} {A B C : World} (h : KpT n0 x0 A B) (k : KpT n0 x0 B C) : KpT n0 x0 A C := ⟨Nat.le_trans h.1 k.1, fun j h1 h2 => (k.2 j h1 h2).trans (h.2 j h1 h2)⟩
theorem KpT.put {n0 x0 l : Nat} {W : World} {o o' : Obj} (hl : n0 ≤ l) (_h : W.heap[l]? = some o) : KpT n0 x0 W (W.putObj l o') :=
  ⟨by simp, fun j h1 _ => World.putObj_heap_other (by omega)⟩
theorem KpT.cell {n0 x0 a i : Nat} {W W' : World} {v : Value} (h : KpT n0 x0 W W') (ha : a < n0) (hne : a ≠ x0) (hc : W.cell? ⟨a, i, none⟩ = some v) : W'.cell? ⟨a, i, none⟩ = some v := by
  rw [World.cell?_of_block (a := ⟨a, i, none⟩) (h.2 a ha hne)]; exact hc
theorem ItS.keep {fn : Fn} {s : ByteArray} {r : Int} {Z : Nat} {d g : Int} {L mb tb rb : Nat} {a : Option Addr} {b o cap n0 k x0 : Nat} {l : List Int} {w w' : World} (h : ItS fn s r Z d g L mb tb rb a b o cap n0 l k w) (hb : KpT n0 x0 w w')
    (hx : tb ≠ x0 ∧ rb ≠ x0 ∧ L ≠ x0 ∧ mb ≠ x0 ∧ (l ≠ [] → b ≠ x0)) : ItS fn s r Z d g L mb tb rb a b o cap n0 l k w' := by
  obtain ⟨x1, x2, x3, x4, x5⟩ := hx
  obtain ⟨⟨c0, c1, c2, c3, c4, c5, c6⟩, hne, D, ⟨es, clock, h1, h2⟩, hg⟩ := h.rds
  refine ⟨hb.cell h.lt.1 x1 h.temps, h.addr, hb.cell h.lt.2.1 x2 h.rate, fun j hj => ?_, ⟨⟨hb.cell h.lt.2.2.1 x3 c0, hb.cell h.lt.2.2.1 x3 c1, hb.cell h.lt.2.2.1 x3 c2, hb.cell h.lt.2.2.1 x3 c3, hb.cell h.lt.2.2.1 x3 c4, hb.cell h.lt.2.2.1 x3 c5, Nat.lt_of_lt_of_le c6 hb.1⟩, hne, D, ⟨es, clock, (hb.2 mb h.lt.2.2.2.1 x4).trans h1, h2⟩, hg⟩, h.lt, Nat.le_trans h.le hb.1⟩
  have hl : l ≠ [] := by rintro rfl; exact absurd hj (Nat.not_lt_zero _)
  exact hb.cell (h.lt.2.2.2.2 hl) (x5 hl) (h.cells j hj)
theorem grown_more {w W W' : World} {mb : Nat} {row : Option Nat} (h : w.grownBy W (some mb)) (hg : W.grownBy W' row) (hr : ∀ j, row = some j → j = mb ∨ w.heap.size ≤ j) : w.grownBy W' (some mb) :=
  ⟨hg.os.trans h.os, hg.tape.trans h.tape, hg.output.trans h.output, Nat.le_trans h.size hg.size, fun k hk hne => by
    refine (hg.block k (Nat.lt_of_lt_of_le hk h.size) (fun e => ?_)).trans (h.block k hk hne)
    rcases hr k e.symm with rfl | h1
    · exact hne rfl
    · omega⟩

theorem total_start (fn : Fn) (s : ByteArray) (r d g : Int) (Z L mb : Nat) (a : Option Addr) (b o cap : Nat) (l : List Int) (w : World) (T1 T2 T3 : TypeId)
    (ha : l = [] ∨ a = some ⟨b, o, none⟩) (hc : ∀ j (h : j < l.length), w.cell? ⟨b, o + j, none⟩ = some (.int .i64 l[j])) (hb : l ≠ [] → b < w.heap.size) (hS : RdS s r Z d g L mb 0 w) :
    ∃ W0, ((w.alloc (.cells #[.int .i64 0] T1)).alloc (.cells #[.slice a l.length cap] T2)).alloc (.cells #[.func fn #[] #[.pointer (some ⟨L, 0, none⟩)]] T3) = W0 ∧ W0.heap.size = w.heap.size + 3 ∧
      W0.heap[w.heap.size]? = some (.cells #[.int .i64 0] T1 (0, 0)) ∧ ItS fn s r Z d g L mb (w.heap.size + 1) (w.heap.size + 1 + 1) a b o cap (w.heap.size + 3) l 0 W0 ∧ w.grownBy W0 (some mb) := by
  refine ⟨_, rfl, by simp, ?_, ?_, ?_⟩
  · rw [Below.heap_alloc _ _ _ (by simp; omega), Below.heap_alloc _ _ _ (by simp)]
    exact heap_alloc_new w _
  · have hLlt : L < w.heap.size := hS.1.2.2.2.2.2.2
    have hmlt : mb < w.heap.size := hS.2.2.lt
    have hB : Below w.heap.size w (((w.alloc (.cells #[.int .i64 0] T1)).alloc (.cells #[.slice a l.length cap] T2)).alloc (.cells #[.func fn #[] #[.pointer (some ⟨L, 0, none⟩)]] T3)) := (((Below.refl _ _).alloc (Nat.le_refl _) _).alloc (by simp) _).alloc (by simp; omega) _
    have c1 := cell_alloc_new (w.alloc (.cells #[.int .i64 0] T1)) #[.slice a l.length cap] T2 (0, 0) 0
    have c2 := cell_alloc_new ((w.alloc (.cells #[.int .i64 0] T1)).alloc (.cells #[.slice a l.length cap] T2)) #[.func fn #[] #[.pointer (some ⟨L, 0, none⟩)]] T3 (0, 0) 0
    rw [alloc_size] at c1
    rw [alloc_size, alloc_size] at c2
    refine ⟨keep_cell (Below.alloc (Below.refl _ _) (Nat.le_refl _) _) c1, ha, c2, fun j hj => keep_cell hB (hc j hj), hS.kept (row := none) (gbelow hB) (by simp) (by simp), ⟨by omega, by omega, by omega, by omega, fun h => by have := hb h; omega⟩, by simp⟩
  · exact gbelow ((((Below.refl _ _).alloc (Nat.le_refl _) _).alloc (by simp) _).alloc (by simp; omega) _)


end Go.Proofs.Ytihbjimnjhfpeaa.Lt
