/- Small tools of these proofs. -/
import Derived.Test.YtikjgbfbbkmmcaaRows
import Derived.WalkKit
import Derived.WalkSpells
import Derived.WalkLawsBesides
import Derived.BigQuiet
import Derived.Deep.QuietTactic
import Derived.Deep.RegionHeld3
import Derived.StillTailTactics
import Derived.Deep.RegionWith
namespace Go.Proofs.Ytikjgbfbbkmmcaa
open Go.RowKit

theorem hid {p : Prop} (h : p) : Hid p := h
theorem ret_bool {a b : Bool} (h : a = b) : Ending.returned (.bool a) = .returned (.bool b) := by rw [h]
theorem ret_int {k : IntKind} {a b : Int} (h : a = b) : Ending.returned (.int k a) = .returned (.int k b) := by rw [h]
theorem bcell {W w1 : World} (hb : Below W.heap.size W w1) : (∀ b o, b < W.heap.size → w1.cell? ⟨b, o, none⟩ = W.cell? ⟨b, o, none⟩) ∧ (∀ b o, b < W.heap.size → w1.frozen? ⟨b, o, none⟩ = W.frozen? ⟨b, o, none⟩) :=
  ⟨fun b o h => hb.cell (p := ⟨b, o, none⟩) h, fun b o h => hb.frozen (p := ⟨b, o, none⟩) h⟩
theorem balloc {w w1 : World} {o : Obj} (hb : Below (w.alloc o).heap.size (w.alloc o) w1) : Below w.heap.size w w1 :=
  ((Below.refl _ _).alloc (Nat.le_refl _) _).trans (hb.mono (by simp))
theorem bdrewN {B : Nat} {w w1 : World} {n : Nat} (h : Below B w w1) : Below B w (w1.drewN n) := ⟨h.os, h.tape, h.output, h.size, h.block⟩
theorem cell_alloc_new (w : World) (cs : Array Value) (T : TypeId) (fz : Nat × Nat) (i : Nat) : (w.alloc (.cells cs T fz)).cell? ⟨w.heap.size, i, none⟩ = cs[i]? := by
  unfold World.cell?
  show (match (w.alloc (.cells cs T fz)).heap[w.heap.size]? with | some (.cells c _ _) => _ | _ => _) = _
  rw [heap_alloc_new]
  rfl
theorem alloc_size (w : World) (o : Obj) : (w.alloc o).heap.size = w.heap.size + 1 := by simp
theorem keep_cell {W w2 : World} {b i : Nat} {v : Value} (hb : Below W.heap.size W w2) (h : W.cell? ⟨b, i, none⟩ = some v) : w2.cell? ⟨b, i, none⟩ = some v :=
  (hb.cell (p := ⟨b, i, none⟩) (World.block_lt_of_cell? W ⟨b, i, none⟩ h)).trans h
/-- A slice of ints that is read, from any place of a row. -/
def RowI (w : World) (v : Value) (l : List Int) : Prop := (∃ a cap, v = .slice a 0 cap ∧ l = []) ∨ ∃ b o cap, v = .slice (some ⟨b, o, none⟩) l.length cap ∧ l.length ≤ maxLen ∧ ∀ k (h : k < l.length), w.cell? ⟨b, o + k, none⟩ = some (.int .i64 l[k])
theorem RowI.keep {W w2 : World} {v : Value} {l : List Int} (h : RowI W v l) (hb : Below W.heap.size W w2) : RowI w2 v l := by
  rcases h with h | ⟨b, o, cap, hv, hm, hc⟩
  · exact .inl h
  · exact .inr ⟨b, o, cap, hv, hm, fun k hk => keep_cell hb (hc k hk)⟩
theorem RowI.shape {w : World} {v : Value} {l : List Int} (h : RowI w v l) : ∃ a cap, v = .slice a l.length cap := by
  rcases h with ⟨_, _, rfl, rfl⟩ | ⟨b, o, cap, rfl, _, _⟩
  · exact ⟨_, _, rfl⟩
  · exact ⟨_, _, rfl⟩
theorem bstep {A : Nat} {w w1 w2 : World} (h : Below A w w1) (hs : A ≤ w1.heap.size) (k : Below w1.heap.size w1 w2) : Below A w w2 := h.trans (k.mono hs)
/-- What two boxes behind one another hold. -/
structure Box2 (w w1 : World) (A B : Array Value) : Prop where
  fst : ∀ i, w1.cell? ⟨w.heap.size, i, none⟩ = A[i]?
  snd : ∀ i, w1.cell? ⟨w.heap.size + 1, i, none⟩ = B[i]?
  sz : w.heap.size + 1 < w1.heap.size
  low : Below w.heap.size w w1
theorem box2_start {w : World} {A B : Array Value} {T T' : TypeId} {fz fz' : Nat × Nat} : Box2 w ((w.alloc (.cells A T fz)).alloc (.cells B T' fz')) A B := by
  refine ⟨fun i => ?_, fun i => ?_, by simp, ((Below.refl _ _).alloc (Nat.le_refl _) _).alloc (by simp) _⟩
  · have h := (bcell ((Below.refl _ (w.alloc (.cells A T fz))).alloc (Nat.le_refl _) (.cells B T' fz'))).1 w.heap.size i (by simp)
    rw [h, cell_alloc_new]
  · have h := cell_alloc_new (w.alloc (.cells A T fz)) B T' fz' i
    rwa [alloc_size] at h
theorem Box2.keep {w w1 w2 : World} {A B : Array Value} (h : Box2 w w1 A B) (hb : Below w1.heap.size w1 w2) : Box2 w w2 A B :=
  ⟨fun i => ((bcell hb).1 _ _ (Nat.lt_of_succ_lt h.sz)).trans (h.fst i), fun i => ((bcell hb).1 _ _ h.sz).trans (h.snd i), Nat.lt_of_lt_of_le h.sz hb.size, bstep h.low h.low.size hb⟩
theorem Box2.can {w w1 : World} {c0 c1 c2 c3 c4 c5 c6 : Value} {B : Array Value} (h : Box2 w w1 #[c0, c1, c2, c3, c4, c5, c6] B) :
    w1.cell? ⟨w.heap.size, 0, none⟩ = some c0 ∧ w1.cell? ⟨w.heap.size, 1, none⟩ = some c1 ∧ w1.cell? ⟨w.heap.size, 2, none⟩ = some c2 ∧ w1.cell? ⟨w.heap.size, 3, none⟩ = some c3 ∧ w1.cell? ⟨w.heap.size, 4, none⟩ = some c4 ∧ w1.cell? ⟨w.heap.size, 5, none⟩ = some c5 ∧ w1.cell? ⟨w.heap.size, 6, none⟩ = some c6 :=
  ⟨h.fst 0, h.fst 1, h.fst 2, h.fst 3, h.fst 4, h.fst 5, h.fst 6⟩
theorem Box2.body {w w1 : World} {A : Array Value} {d0 d1 : Value} (h : Box2 w w1 A #[d0, d1]) :
    w1.cell? ⟨w.heap.size + 1, 0, none⟩ = some d0 ∧ w1.cell? ⟨w.heap.size + 1, 1, none⟩ = some d1 := ⟨h.snd 0, h.snd 1⟩
/-- What one box holds. -/
structure Box1 (w w1 : World) (A : Array Value) : Prop where
  fst : ∀ i, w1.cell? ⟨w.heap.size, i, none⟩ = A[i]?
  sz : w.heap.size < w1.heap.size
  low : Below w.heap.size w w1
theorem Box1.keep {w w1 w2 : World} {A : Array Value} (h : Box1 w w1 A) (hb : Below w1.heap.size w1 w2) : Box1 w w2 A :=
  ⟨fun i => ((bcell hb).1 _ _ h.sz).trans (h.fst i), Nat.lt_of_lt_of_le h.sz hb.size, bstep h.low h.low.size hb⟩
theorem Box1.can {w w1 : World} {c0 c1 c2 c3 c4 c5 c6 : Value} (h : Box1 w w1 #[c0, c1, c2, c3, c4, c5, c6]) :
    w1.cell? ⟨w.heap.size, 0, none⟩ = some c0 ∧ w1.cell? ⟨w.heap.size, 1, none⟩ = some c1 ∧ w1.cell? ⟨w.heap.size, 2, none⟩ = some c2 ∧ w1.cell? ⟨w.heap.size, 3, none⟩ = some c3 ∧ w1.cell? ⟨w.heap.size, 4, none⟩ = some c4 ∧ w1.cell? ⟨w.heap.size, 5, none⟩ = some c5 ∧ w1.cell? ⟨w.heap.size, 6, none⟩ = some c6 :=
  ⟨h.fst 0, h.fst 1, h.fst 2, h.fst 3, h.fst 4, h.fst 5, h.fst 6⟩
/-- Nine cells: a can's box and a body's behind it. -/
def Nine (b : Nat) (w w1 : World) (c0 c1 c2 c3 c4 c5 c6 d0 d1 : Value) : Prop :=
  w1.cell? ⟨b, 0, none⟩ = some c0 ∧ w1.cell? ⟨b, 1, none⟩ = some c1 ∧ w1.cell? ⟨b, 2, none⟩ = some c2 ∧ w1.cell? ⟨b, 3, none⟩ = some c3 ∧ w1.cell? ⟨b, 4, none⟩ = some c4 ∧ w1.cell? ⟨b, 5, none⟩ = some c5 ∧ w1.cell? ⟨b, 6, none⟩ = some c6 ∧
    w1.cell? ⟨b + 1, 0, none⟩ = some d0 ∧ w1.cell? ⟨b + 1, 1, none⟩ = some d1 ∧ b + 1 < w1.heap.size ∧ Below w.heap.size w w1
end Go.Proofs.Ytikjgbfbbkmmcaa
