/- Walk of the iterator of package lethal's running sums: contract. -/
import Derived.Test.YtihbjimnjhfpeaaG32
import Derived.Shelf.Abstract
import Derived.Shelf.RegionOpen
import Derived.WalkKit
import Derived.OwnWalkIn
import Derived.TacticsInMore
import Derived.LoopNIn
import Derived.LoopIn
namespace Go.Proofs.Ytihbjimnjhfpeaa.Lt
open Go.RowKit Go.Lib Go.Maps Go.Shelf
attribute [local go_sem] Oper.semAt_some

/-- What the iterator hands to a round: how many, and the sum. -/
def encS (x : Nat × Nat) : Array Value := #[.int .i64 (x.1 : Int), .int .i64 (x.2 : Int)]
def seqS (f : Int → Nat) (l : List Int) : List (Nat × Nat) := (List.range l.length).map fun i => (i + 1, sumL f (l.take (i + 1)))
theorem seqS_get (f : Int → Nat) (l : List Int) (k : Nat) (h : k < l.length) : (seqS f l)[k]? = some (k + 1, sumL f (l.take (k + 1))) := by
  unfold seqS; rw [List.getElem?_map, List.getElem?_range h]; rfl
theorem seqS_len (f : Int → Nat) (l : List Int) : (seqS f l).length = l.length := by simp [seqS]

/-- What the iterator stands on behind k rounds: its two boxes, the temperatures, the rates. -/
structure ItS (fn : Fn) (s : ByteArray) (r : Int) (Z : Nat) (d g : Int) (L mb tb rb : Nat) (a : Option Addr) (b o cap n0 : Nat) (l : List Int) (k : Nat) (w : World) : Prop where
  temps : w.cell? ⟨tb, 0, none⟩ = some (.slice a l.length cap)
  addr : l = [] ∨ a = some ⟨b, o, none⟩
  rate : w.cell? ⟨rb, 0, none⟩ = some (.func fn #[] #[.pointer (some ⟨L, 0, none⟩)])
  cells : ∀ j (h : j < l.length), w.cell? ⟨b, o + j, none⟩ = some (.int .i64 l[j])
  rds : RdS s r Z d g L mb k w
  lt : tb < n0 ∧ rb < n0 ∧ L < n0 ∧ mb < n0 ∧ (l ≠ [] → b < n0)
  le : n0 ≤ w.heap.size
theorem MapI.isMap {r : Int} {Z : Nat} {w : World} {mb n : Nat} (h : MapI r Z w mb n) : ∃ o : Obj, w.heap[mb]? = some o ∧ o.isWalk = true := by
  obtain ⟨D, ⟨es, clock, h1, _⟩, _⟩ := h
  exact ⟨_, h1, rfl⟩
theorem MapI.noCell {r : Int} {Z : Nat} {w : World} {mb n a i : Nat} {v : Value} (h : MapI r Z w mb n) (hc : w.cell? ⟨a, i, none⟩ = some v) : some a ≠ some mb := by
  intro e
  cases e
  obtain ⟨D, ⟨es, clock, h1, _⟩, _⟩ := h
  unfold World.cell? at hc
  rw [show w.heap[(⟨mb, i, none⟩ : Addr).block]? = _ from h1] at hc
  cases hc
theorem ItS.call {fn : Fn} {s : ByteArray} {r : Int} {Z : Nat} {d g : Int} {L mb tb rb : Nat} {a : Option Addr} {b o cap n0 k : Nat} {l : List Int} {w w' : World} (h : ItS fn s r Z d g L mb tb rb a b o cap n0 l k w) (hg : w.grownBy w' (some mb)) (hm : MapI r Z w' mb (k + 1)) : ItS fn s r Z d g L mb tb rb a b o cap n0 l (k + 1) w' := by
  have hM := h.rds.2.2
  refine ⟨grown_cell hg (Nat.lt_of_lt_of_le h.lt.1 h.le) (hM.noCell h.temps) h.temps, h.addr, grown_cell hg (Nat.lt_of_lt_of_le h.lt.2.1 h.le) (hM.noCell h.rate) h.rate, fun j hj => ?_, h.rds.next hg hm, h.lt, Nat.le_trans h.le hg.size⟩
  exact grown_cell hg (Nat.lt_of_lt_of_le (h.lt.2.2.2.2 (by rintro rfl; exact absurd hj (Nat.not_lt_zero _))) h.le) (hM.noCell (h.cells j hj)) (h.cells j hj)
theorem ItS.past {fn : Fn} {s : ByteArray} {r : Int} {Z : Nat} {d g : Int} {L mb tb rb : Nat} {a : Option Addr} {b o cap n0 k : Nat} {l : List Int} {w w' : World} (h : ItS fn s r Z d g L mb tb rb a b o cap n0 l k w) (hb : Below n0 w w') : ItS fn s r Z d g L mb tb rb a b o cap n0 l k w' := by
  have hc : ∀ a i v, a < n0 → w.cell? ⟨a, i, none⟩ = some v → w'.cell? ⟨a, i, none⟩ = some v := fun a i v ha e => (hb.cell (p := ⟨a, i, none⟩) ha).trans e
  obtain ⟨⟨c0, c1, c2, c3, c4, c5, c6⟩, hne, D, ⟨es, clock, h1, h2⟩, hg⟩ := h.rds
  refine ⟨hc _ _ _ h.lt.1 h.temps, h.addr, hc _ _ _ h.lt.2.1 h.rate, fun j hj => hc _ _ _ (h.lt.2.2.2.2 (by rintro rfl; exact absurd hj (Nat.not_lt_zero _))) (h.cells j hj), ⟨⟨hc _ _ _ h.lt.2.2.1 c0, hc _ _ _ h.lt.2.2.1 c1, hc _ _ _ h.lt.2.2.1 c2, hc _ _ _ h.lt.2.2.1 c3, hc _ _ _ h.lt.2.2.1 c4, hc _ _ _ h.lt.2.2.1 c5, Nat.lt_of_lt_of_le c6 hb.size⟩, hne, D, ⟨es, clock, (hb.block mb h.lt.2.2.2.1).trans h1, h2⟩, hg⟩, h.lt, Nat.le_trans h.le hb.size⟩

end Go.Proofs.Ytihbjimnjhfpeaa.Lt
