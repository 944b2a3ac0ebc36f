/- The iterator of slices.Chunk over ints: contract. -/
import Derived.Test.YtedfajokiblfhaaQb
import Derived.Test.YtedfajokiblfhaaA5
import Derived.Shelf.Abstract
import Derived.Shelf.RegionOpen
import Derived.WalkKit
import Derived.OwnWalkIn
import Derived.TacticsInMore
import Derived.LoopNIn
import Derived.LoopIn
namespace Go.Proofs.Ytedfajokiblfhaa
open Go.RowKit

/-- What the iterator yields in round i. -/
def ckE (b o R i : Nat) : Array Value := #[.slice (some ⟨b, o + i * R, none⟩) R R]
/-- What the iterator stands on. -/
structure ItC (sb nb b o P cap R n0 : Nat) (w : World) : Prop where
  sp : w.cell? ⟨sb, 0, none⟩ = some (.slice (some ⟨b, o, none⟩) P cap)
  np : w.cell? ⟨nb, 0, none⟩ = some (.int .i64 (R : Int))
  lt : sb < n0 ∧ nb < n0
  le : n0 ≤ w.heap.size
/-- What a round that goes on keeps. -/
def KpC (n0 : Nat) (W W' : World) : Prop := W.heap.size ≤ W'.heap.size ∧ ∀ j, j < n0 → W'.heap[j]? = W.heap[j]?
theorem ItC.past {sb nb b o P cap R n0 : Nat} {w w' : World} (H : ItC sb nb b o P cap R n0 w) (h : KpC n0 w w') : ItC sb nb b o P cap R n0 w' :=
  ⟨(World.cell?_of_block (a := ⟨sb, 0, none⟩) (h.2 _ H.lt.1)).trans H.sp, (World.cell?_of_block (a := ⟨nb, 0, none⟩) (h.2 _ H.lt.2)).trans H.np, H.lt, Nat.le_trans H.le h.1⟩
theorem gbelowC {w w' : World} (h : Below w.heap.size w w') : w.grownBy w' none := ⟨h.os, h.tape, h.output, h.size, fun j hj _ => h.block j hj⟩
theorem range_at {L k : Nat} (h : k < L) : (List.range L)[k]? = some k := by simp [h]
theorem ck_rest (b o P cap I : Nat) (h1 : I ≤ P) (h2 : P ≤ cap) : ∃ ad, ∀ W : World, (Instr.sliceAt 28 (.slice (some ⟨b, o, none⟩) P cap) (some (.int .i64 (I : Int))) none none).run Try.prog W = .ok (.slice (some ad) (P - I) (cap - I)) W := by
  have e1 : (I : Int) ≤ (P : Int) := by omega
  by_cases hc : I = cap
  · refine ⟨⟨b, o, none⟩, fun W => ?_⟩
    subst hc
    simp [go_sem, Try.underlying28, e1]
  · refine ⟨⟨b, o + I, none⟩, fun W => ?_⟩
    have hc2 : ¬ cap = I := fun h => hc h.symm
    simp [go_sem, Try.underlying28, e1, hc2]
theorem ck_mid (b o P cap I R : Nat) (h0 : 0 < R) (h1 : I + R ≤ cap) (W : World) : (Instr.sliceAt 28 (.slice (some ⟨b, o, none⟩) P cap) (some (.int .i64 (I : Int))) (some (.int .i64 ((I : Int) + (R : Int)))) (some (.int .i64 ((I : Int) + (R : Int))))).run Try.prog W = .ok (.slice (some ⟨b, o + I, none⟩) R R) W := by
  obtain ⟨H, hH⟩ : ∃ H : Nat, H = I + R := ⟨_, rfl⟩
  have e2 : ((I : Int) + (R : Int)) = (H : Int) := by omega
  have e1 : (H : Int) ≤ (cap : Int) := by omega
  have e3 : (I : Int) ≤ (H : Int) := by omega
  have e4 : ¬ H = I := by omega
  have e5 : H - I = R := by omega
  rw [e2]
  clear e2 hH
  simp [go_sem, Try.underlying28, e1, e3, e4, e5]
end Go.Proofs.Ytedfajokiblfhaa
