/- A region that draws its order, whose operations only read, and whose callees read and may make memory of their own: one walk, in the order of the text. No seat's names. -/
import Derived.Test.YtedfajokiblfhaaGreatA1
import Derived.Deep.QuietTactic
namespace Go.Proofs.YtedfajokiblfhaaGreat
open Go.RowKit

/-- A world in which all that lay in w lies as it was. -/
structure LowBy (w : World) where
  W : World
  low : Below w.heap.size w W
instance (w : World) : Inhabited (LowBy w) := ⟨⟨w, Below.refl _ _⟩⟩
section
variable {P : Program}
theorem wp_region_quiet_low {id : Nat} {Q : Exit → Act → World → Prop} {a : Act} {w : World} {l : List Oper} (hm : P.follows .mixedOrders = true) (hB : Region.lexB .any l.toArray = true)
    (h : wpQuiet P l.toArray (fun w' => ∃ p : LowBy w, w' = p.W) (fun a' => ∀ w', (∃ p : LowBy w, w' = p.W) → Q .normal a' w') l a) : (Code.region id l.toArray true).wp P Q a w :=
  wp_region_quiet (C := fun w' => ∃ p : LowBy w, w' = p.W) hm hB ⟨⟨w.drew, (Below.refl _ _).drew⟩, rfl⟩ (by simpa using h)
/-- The list of what is left behind a letter: else what is behind a guard that is not wanted is opened again and again. -/
theorem wp_region_low {id : Nat} {Q : Exit → Act → World → Prop} {a : Act} {w : World} {l : List Oper} (hm : P.follows .mixedOrders = true) (hB : Region.lexB .any l.toArray = true)
    (h : ∀ R, Hid (R = l) → wpQuiet P l.toArray (fun w' => ∃ p : LowBy w, w' = p.W) (fun a' => ∀ w', (∃ p : LowBy w, w' = p.W) → Q .normal a' w') R a) : (Code.region id l.toArray true).wp P Q a w :=
  wp_region_quiet_low hm hB (h l rfl)
theorem low_step {ops : Array Oper} {C : World → Prop} {Q : Act → Prop} {a : Act} {o : Oper} {R rest : List Oper} (hR : Hid (R = o :: rest))
    (h : ∀ R' : List Oper, Hid (R' = rest) → ∀ K : Act → Prop, (∀ a, wpQuiet P ops C Q R' a → K a) → if Region.wanted o (yielded ops a.tmps) then o.quiet P a C K else K (a.put o.dst undef)) : wpQuiet P ops C Q R a := by
  rw [hR.out]
  exact wpQuiet_step (h rest rfl)
theorem low_nil {ops : Array Oper} {C : World → Prop} {Q : Act → Prop} {a : Act} {R : List Oper} (hR : Hid (R = [])) (h : Q a) : wpQuiet P ops C Q R a := by
  rw [hR.out]
  exact wpQuiet_nil h
theorem low_of {f : FuncId} {args : Array Value} {w : World} {p : LowBy w} {v : Value}
    (h : Calls P f args p.W fun e w' => e = .returned v ∧ Below p.W.heap.size p.W w') : Calls P f args p.W fun e w'' => e = .returned v ∧ ∃ q : LowBy w, w'' = q.W :=
  h.mono fun _ w' ⟨he, hb⟩ => ⟨he, ⟨w', bstep p.low p.low.size hb⟩, rfl⟩
theorem low_of_same {f : FuncId} {args : Array Value} {w : World} {p : LowBy w} {v : Value}
    (h : Calls P f args p.W fun e w' => e = .returned v ∧ p.W = w') : Calls P f args p.W fun e w'' => e = .returned v ∧ ∃ q : LowBy w, w'' = q.W :=
  h.mono fun _ _ ⟨he, hb⟩ => ⟨he, p, hb.symm⟩
theorem low_cell {w : World} {b i : Nat} {v : Value} (h : w.cell? ⟨b, i, none⟩ = some v) (p : LowBy w) : p.W.cell? ⟨b, i, none⟩ = some v := keep_cell p.low h
end
end Go.Proofs.YtedfajokiblfhaaGreat
