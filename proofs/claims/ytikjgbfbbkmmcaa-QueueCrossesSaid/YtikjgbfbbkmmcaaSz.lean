/- A range over a function whose iterator keeps state of its own in cells of one type: the caller's law. -/
import Derived.RangeFuncNested
import Derived.RangeFuncBound
import Derived.RangeFuncCalls
import Derived.RangeFuncLeaves
import Derived.RangeFuncWrites
namespace Go.Proofs.Ytikjgbfbbkmmcaa
open Go.RowKit

section
variable {α : Type} {F : Fence} {n : Nat} {P : Program}
/-- A walk's object, or cells of type T. -/
def Obj.turns (T : TypeId) (o : Obj) : Prop := o.isWalk = true ∨ ∃ cs, o = .cells cs T (0, 0)
/-- What is no cells, or cells of type T. -/
def Obj.apart (T : TypeId) (o : Obj) : Prop := o.isCells = false ∨ ∃ cs, o = .cells cs T (0, 0)
/-- J stands when a walk's object, or cells of type T, that are no older than B, are turned, and when blocks are laid. -/
def AbG (T B : Nat) (J : List α → World → Prop) : Prop :=
  ∀ s W W' row, J s W → W.grownBy W' row → (∀ j, row = some j → B ≤ j ∧ ∃ o : Obj, W.heap[j]? = some o ∧ Obj.turns T o) → J s W'
/-- The same of what is no cells. -/
def OwG (T B : Nat) (J : List α → World → Prop) : Prop :=
  ∀ s W W' row, J s W → W.grownBy W' row → (∀ j, row = some j → B ≤ j ∧ ∃ o : Obj, W.heap[j]? = some o ∧ Obj.apart T o) → J s W'
/-- An iterator that yields xs in their order, one round each, and keeps no more than that of J between rounds; a round that goes on pays Kp. -/
def SeqG (T : Nat) (F : Fence) (n : Nat) (P : Program) (gf : Nat) (lb : Array Value) (encs : α → Array Value) (Kp : World → World → Prop) (xs : List α) (w : World) : Prop :=
  ∀ (l : Nat) (J Jx : List α → World → Prop) (W : World), Below w.heap.size w W → AbG T W.heap.size J → AbG T W.heap.size Jx →
    (∀ k x W1, xs[k]? = some x → J (xs.take k) W1 → YieldAt F (n - 1) P l (encs x) W1 fun e W' =>
      (e = .returned (.bool true) ∧ J (xs.take (k + 1)) W' ∧ Kp W1 W') ∨ (e = .returned (.bool false) ∧ Jx (xs.take (k + 1)) W')) →
    J [] W →
    CallsIn F n P gf (#[.func (.yield l) #[] #[]] ++ lb) W fun e W' => (∃ v, e = .returned v) ∧ (J xs W' ∨ ∃ k, Jx (xs.take k) W')

theorem OwG.put {T B : Nat} {J : List α → World → Prop} (h : OwG T B J) {s : List α} {W : World} {l : Nat} {o : Obj} (o' : Obj) (hs : J s W) (hB : B ≤ l) (hl : W.heap[l]? = some o) (ho : o.isCells = false) : J s (W.putObj l o') :=
  h s W _ (some l) hs (grownBy_putObj' W l o') (fun j e => by cases e; exact ⟨hB, o, hl, .inl ho⟩)
theorem OwG.lay {T B : Nat} {J : List α → World → Prop} (h : OwG T B J) {s : List α} {W : World} (o : Obj) (hs : J s W) : J s (W.alloc o) :=
  h s W _ none hs (World.grownBy_alloc W o none) (fun j e => by cases e)
/-- How a round of the body may end: it goes on, or it returns. -/
def EndM (B : Nat) (Kp : World → World → Prop) (I Ix : World → Prop) (W : World) : Exit → Act → World → Prop
  | .normal, _, W' => KeepsFrom B W W' ∧ Kp W W' ∧ I W'
  | .ret, _, W' => KeepsFrom B W W' ∧ Ix W'
  | _, _, _ => False

/-- What the loop's two blocks hold: its record at B + 1, the rounds' deferred calls (none) at B. -/
def Blocks (B : Nat) (q : Loop) (W : World) : Prop := W.heap[B + 1]? = some (.loop q) ∧ W.heap[B]? = some (.deferred (some []))
theorem Blocks.step {B C T : Nat} {q : Loop} {W W' : World} {row : Option Nat} (h : Blocks B q W) (hg : W.grownBy W' row) (hr : ∀ j, row = some j → C ≤ j ∧ ∃ o : Obj, W.heap[j]? = some o ∧ Obj.turns T o) : Blocks B q W' := by
  refine ⟨(hg.block _ (Array.getElem?_eq_some_iff.1 h.1).1 (fun e => ?_)).trans h.1, (hg.block _ (Array.getElem?_eq_some_iff.1 h.2).1 (fun e => ?_)).trans h.2⟩
  · obtain ⟨_, o, ho, hw | ⟨cs, rfl⟩⟩ := hr _ e.symm
    · rw [h.1] at ho; cases ho; cases hw
    · rw [h.1] at ho; cases ho
  · obtain ⟨_, o, ho, hw | ⟨cs, rfl⟩⟩ := hr _ e.symm
    · rw [h.2] at ho; cases ho; cases hw
    · rw [h.2] at ho; cases ho
theorem Blocks.turn {B : Nat} {q : Loop} {W : World} (q' : Loop) (h : Blocks B q W) : Blocks B q' (W.putObj (B + 1) (.loop q')) :=
  ⟨World.putObj_heap_same (Array.getElem?_eq_some_iff.1 h.1).1, (World.putObj_heap_other (by omega)).trans h.2⟩
theorem Blocks.past {B : Nat} {q : Loop} {W W' : World} (h : Blocks B q W) (hk : KeepsFrom B W W') : Blocks B q W' :=
  ⟨hk.same _ _ (by omega) h.1 rfl, hk.same _ _ (Nat.le_refl _) h.2 rfl⟩

end
end Go.Proofs.Ytikjgbfbbkmmcaa
