/- Texts of this seat, one behind the other. -/
import Derived.Test.YtihbjimnjhfpeaaGreatR18
import Derived.Test.YtihbjimnjhfpeaaGreatR16
import Derived.RangeFuncNested
import Derived.RangeFuncBound
import Derived.RangeFuncCalls
import Derived.RangeFuncLeaves
import Derived.RangeFuncWrites
import Derived.Shelf.Abstract
import Derived.Shelf.RegionOpen
import Derived.WalkKit
import Derived.OwnWalkIn
import Derived.TacticsInMore
import Derived.LoopNIn
import Derived.LoopIn
/- Walk of the reference's SumUp: contracts. -/
namespace Go.Proofs.YtihbjimnjhfpeaaGreat.Lt
open Go.RowKit Go.Lib Go.Maps



end Go.Proofs.YtihbjimnjhfpeaaGreat.Lt

/- Walks of the rate functions that Sum and SumUp hand on: contracts. -/
namespace Go.Proofs.YtihbjimnjhfpeaaGreat.Lt
open Go.RowKit Go.Lib Go.Maps

/-- What a rate function works on: the rates at L, their map at mb, c entries at most. -/
def RdS (s : ByteArray) (r : Int) (Z : Nat) (d g : Int) (L mb c : Nat) (w : World) : Prop := Box6 w L s r Z d g mb ∧ mb ≠ L ∧ MapI r Z w mb c
theorem RdS.next {s : ByteArray} {r d g : Int} {Z L mb c c' : Nat} {w w' : World} (h : RdS s r Z d g L mb c w) (hg : w.grownBy w' (some mb)) (hm : MapI r Z w' mb c') : RdS s r Z d g L mb c' w' :=
  ⟨h.1.grown hg (fun e => h.2.1 (Option.some.inj e).symm), h.2.1, hm⟩
theorem RdS.kept {s : ByteArray} {r d g : Int} {Z L mb c : Nat} {w w' : World} {row : Option Nat} (h : RdS s r Z d g L mb c w) (hg : w.grownBy w' row) (h1 : some L ≠ row) (h2 : some mb ≠ row) : RdS s r Z d g L mb c w' :=
  ⟨h.1.grown hg h1, h.2.1, h.2.2.kept hg h2⟩

theorem RdS.cells {s : ByteArray} {r d g : Int} {Z L mb c : Nat} {w' : World} (h : RdS s r Z d g L mb c w') : w'.cell? ⟨L, 0, none⟩ = some (.string s) ∧ w'.cell? ⟨L, 1, none⟩ = some (.int .i64 r) ∧ w'.cell? ⟨L, 2, none⟩ = some (.int .i64 Z) ∧ w'.cell? ⟨L, 3, none⟩ = some (.int .i64 d) ∧ w'.cell? ⟨L, 4, none⟩ = some (.int .i64 g) ∧ w'.cell? ⟨L, 5, none⟩ = some (.map (some mb)) := by
  obtain ⟨⟨b0, b1, b2, b3, b4, b5, _⟩, _⟩ := h
  exact ⟨b0, b1, b2, b3, b4, b5⟩


/-- What rateDown and rateUp hand back: the closure over a new rates box. -/
def FnP (f : Fn) (s : ByteArray) (r d g : Int) (Z : Nat) (w : World) (e : Ending) (w' : World) : Prop :=
  ∃ L mb, e = .returned (.func f #[] #[.pointer (some ⟨L, 0, none⟩)]) ∧ RdS s r Z d g L mb 0 w' ∧ w.heap.size ≤ mb ∧ w.heap.size ≤ L ∧ Below w.heap.size w w'
end Go.Proofs.YtihbjimnjhfpeaaGreat.Lt

/- A range over a function whose iterator writes one map that was made ahead of the loop: the caller's law. -/
namespace Go.Proofs.YtihbjimnjhfpeaaGreat.Lt
open Go.RowKit

section
variable {α : Type} {F : Fence} {n : Nat} {P : Program}
/-- J stands when the map at mb, or a walk's object that is no older than B, is turned, and when blocks are laid. -/
def AbM (mb B : Nat) (J : List α → World → Prop) : Prop :=
  ∀ s W W' row, J s W → W.grownBy W' row → (∀ j, row = some j → (j = mb ∨ B ≤ j) ∧ ∃ o : Obj, W.heap[j]? = some o ∧ o.isWalk = true) → J s W'
/-- The same of what is no cells. -/
def OwM (mb B : Nat) (J : List α → World → Prop) : Prop :=
  ∀ s W W' row, J s W → W.grownBy W' row → (∀ j, row = some j → (j = mb ∨ B ≤ j) ∧ ∃ o : Obj, W.heap[j]? = some o ∧ o.isCells = false) → J s W'
/-- An iterator that yields xs in their order, one round each, and keeps no more than that of J between rounds; a round that goes on pays Kp. -/
def SeqM (F : Fence) (n : Nat) (P : Program) (gf : Nat) (lb : Array Value) (encs : α → Array Value) (Kp : World → World → Prop) (mb : Nat) (xs : List α) (w : World) : Prop :=
  ∀ (l : Nat) (J Jx : List α → World → Prop) (W : World), Below w.heap.size w W → AbM mb W.heap.size J → AbM mb W.heap.size Jx →
    (∀ k x W1, xs[k]? = some x → J (xs.take k) W1 → YieldAt F (n - 1) P l (encs x) W1 fun e W' =>
      (e = .returned (.bool true) ∧ J (xs.take (k + 1)) W' ∧ Kp W1 W') ∨ (e = .returned (.bool false) ∧ Jx (xs.take (k + 1)) W')) →
    J [] W →
    CallsIn F n P gf (#[.func (.yield l) #[] #[]] ++ lb) W fun e W' => (∃ v, e = .returned v) ∧ (J xs W' ∨ ∃ k, Jx (xs.take k) W')

theorem OwM.put {mb B : Nat} {J : List α → World → Prop} (h : OwM mb B J) {s : List α} {W : World} {l : Nat} {o : Obj} (o' : Obj) (hs : J s W) (hB : B ≤ l) (hl : W.heap[l]? = some o) (ho : o.isCells = false) : J s (W.putObj l o') :=
  h s W _ (some l) hs (grownBy_putObj' W l o') (fun j e => by cases e; exact ⟨.inr hB, o, hl, ho⟩)
theorem OwM.lay {mb B : Nat} {J : List α → World → Prop} (h : OwM mb B J) {s : List α} {W : World} (o : Obj) (hs : J s W) : J s (W.alloc o) :=
  h s W _ none hs (World.grownBy_alloc W o none) (fun j e => by cases e)
/-- How a round of the body may end: it goes on, or it returns. -/
def EndM (B : Nat) (Kp : World → World → Prop) (I Ix : World → Prop) (W : World) : Exit → Act → World → Prop
  | .normal, _, W' => KeepsFrom B W W' ∧ Kp W W' ∧ I W'
  | .ret, _, W' => KeepsFrom B W W' ∧ Ix W'
  | _, _, _ => False

/-- What the loop's two blocks hold: its record at B + 1, the rounds' deferred calls (none) at B. -/
def Blocks (B : Nat) (q : Loop) (W : World) : Prop := W.heap[B + 1]? = some (.loop q) ∧ W.heap[B]? = some (.deferred (some []))
theorem Blocks.step {B mb C : Nat} {q : Loop} {W W' : World} {row : Option Nat} (h : Blocks B q W) (hg : W.grownBy W' row) (hr : ∀ j, row = some j → (j = mb ∨ C ≤ j) ∧ ∃ o : Obj, W.heap[j]? = some o ∧ o.isWalk = true) : Blocks B q W' :=
  ⟨(grownBy_keeps hg (fun j e => (hr j e).2) h.1 rfl).trans h.1, (grownBy_keeps hg (fun j e => (hr j e).2) h.2 rfl).trans h.2⟩
theorem Blocks.turn {B : Nat} {q : Loop} {W : World} (q' : Loop) (h : Blocks B q W) : Blocks B q' (W.putObj (B + 1) (.loop q')) :=
  ⟨World.putObj_heap_same (Array.getElem?_eq_some_iff.1 h.1).1, (World.putObj_heap_other (by omega)).trans h.2⟩
theorem Blocks.past {B : Nat} {q : Loop} {W W' : World} (h : Blocks B q W) (hk : KeepsFrom B W W') : Blocks B q W' :=
  ⟨hk.same _ _ (by omega) h.1 rfl, hk.same _ _ (Nat.le_refl _) h.2 rfl⟩

end
end Go.Proofs.YtihbjimnjhfpeaaGreat.Lt

/- Walk of the iterator of package lethal's running sums: contract. -/
namespace Go.Proofs.YtihbjimnjhfpeaaGreat.Lt
open Go.RowKit Go.Lib Go.Maps Go.Shelf
attribute [local go_sem] Oper.semAt_some

/-- What the iterator hands to a round: how many, and the sum. -/
def encS (x : Nat × Nat) : Array Value := #[.int .i64 (x.1 : Int), .int .i64 (x.2 : Int)]
def seqS (f : Int → Nat) (l : List Int) : List (Nat × Nat) := (List.range l.length).map fun i => (i + 1, sumL f (l.take (i + 1)))
/-- What the iterator stands on behind k rounds: its two boxes, the temperatures, the rates. -/
structure ItS (fn : Fn) (s : ByteArray) (r : Int) (Z : Nat) (d g : Int) (L mb tb rb : Nat) (a : Option Addr) (b o cap n0 : Nat) (l : List Int) (k : Nat) (w : World) : Prop where
  temps : w.cell? ⟨tb, 0, none⟩ = some (.slice a l.length cap)
  addr : l = [] ∨ a = some ⟨b, o, none⟩
  rate : w.cell? ⟨rb, 0, none⟩ = some (.func fn #[] #[.pointer (some ⟨L, 0, none⟩)])
  cells : ∀ j (h : j < l.length), w.cell? ⟨b, o + j, none⟩ = some (.int .i64 l[j])
  rds : RdS s r Z d g L mb k w
  lt : tb < n0 ∧ rb < n0 ∧ L < n0 ∧ mb < n0 ∧ (l ≠ [] → b < n0)
  le : n0 ≤ w.heap.size
theorem MapI.isMap {r : Int} {Z : Nat} {w : World} {mb n : Nat} (h : MapI r Z w mb n) : ∃ o : Obj, w.heap[mb]? = some o ∧ o.isWalk = true := by
  obtain ⟨D, ⟨es, clock, h1, _⟩, _⟩ := h
  exact ⟨_, h1, rfl⟩
theorem MapI.noCell {r : Int} {Z : Nat} {w : World} {mb n a i : Nat} {v : Value} (h : MapI r Z w mb n) (hc : w.cell? ⟨a, i, none⟩ = some v) : some a ≠ some mb := by
  intro e
  cases e
  obtain ⟨D, ⟨es, clock, h1, _⟩, _⟩ := h
  unfold World.cell? at hc
  rw [show w.heap[(⟨mb, i, none⟩ : Addr).block]? = _ from h1] at hc
  cases hc
theorem ItS.call {fn : Fn} {s : ByteArray} {r : Int} {Z : Nat} {d g : Int} {L mb tb rb : Nat} {a : Option Addr} {b o cap n0 k : Nat} {l : List Int} {w w' : World} (h : ItS fn s r Z d g L mb tb rb a b o cap n0 l k w) (hg : w.grownBy w' (some mb)) (hm : MapI r Z w' mb (k + 1)) : ItS fn s r Z d g L mb tb rb a b o cap n0 l (k + 1) w' := by
  have hM := h.rds.2.2
  refine ⟨grown_cell hg (Nat.lt_of_lt_of_le h.lt.1 h.le) (hM.noCell h.temps) h.temps, h.addr, grown_cell hg (Nat.lt_of_lt_of_le h.lt.2.1 h.le) (hM.noCell h.rate) h.rate, fun j hj => ?_, h.rds.next hg hm, h.lt, Nat.le_trans h.le hg.size⟩
  exact grown_cell hg (Nat.lt_of_lt_of_le (h.lt.2.2.2.2 (by rintro rfl; exact absurd hj (Nat.not_lt_zero _))) h.le) (hM.noCell (h.cells j hj)) (h.cells j hj)
theorem ItS.past {fn : Fn} {s : ByteArray} {r : Int} {Z : Nat} {d g : Int} {L mb tb rb : Nat} {a : Option Addr} {b o cap n0 k : Nat} {l : List Int} {w w' : World} (h : ItS fn s r Z d g L mb tb rb a b o cap n0 l k w) (hb : Below n0 w w') : ItS fn s r Z d g L mb tb rb a b o cap n0 l k w' := by
  have hc : ∀ a i v, a < n0 → w.cell? ⟨a, i, none⟩ = some v → w'.cell? ⟨a, i, none⟩ = some v := fun a i v ha e => (hb.cell (p := ⟨a, i, none⟩) ha).trans e
  obtain ⟨⟨c0, c1, c2, c3, c4, c5, c6⟩, hne, D, ⟨es, clock, h1, h2⟩, hg⟩ := h.rds
  refine ⟨hc _ _ _ h.lt.1 h.temps, h.addr, hc _ _ _ h.lt.2.1 h.rate, fun j hj => hc _ _ _ (h.lt.2.2.2.2 (by rintro rfl; exact absurd hj (Nat.not_lt_zero _))) (h.cells j hj), ⟨⟨hc _ _ _ h.lt.2.2.1 c0, hc _ _ _ h.lt.2.2.1 c1, hc _ _ _ h.lt.2.2.1 c2, hc _ _ _ h.lt.2.2.1 c3, hc _ _ _ h.lt.2.2.1 c4, hc _ _ _ h.lt.2.2.1 c5, Nat.lt_of_lt_of_le c6 hb.size⟩, hne, D, ⟨es, clock, (hb.block mb h.lt.2.2.2.1).trans h1, h2⟩, hg⟩, h.lt, Nat.le_trans h.le hb.size⟩

end Go.Proofs.YtihbjimnjhfpeaaGreat.Lt
