/- Texts of this seat, one behind the other. -/
import Derived.Test.YtihbjimnjhfpeaaGreatG41
import Derived.Test.YtihbjimnjhfpeaaGreatG01
import Derived.Deep.QuietTactic
import Derived.Test.YtihbjimnjhfpeaaGreatG07
/- Walk of Follow of the reference: contract. -/
namespace Go.Proofs.YtihbjimnjhfpeaaGreat
open Go.RowKit Go.Shelf

/-- The bodies behind no, one, .., n ticks. -/
def folN (c : Cn) (x : Bd) (l : List Int) (n : Nat) : List Bd := (List.range (n + 1)).map fun k => runS c x (l.take k)
theorem folN_all (c : Cn) (x : Bd) (l : List Int) : folN c x l l.length = folL c x l := by unfold folN folL seqH; rw [List.map_map]; rfl
theorem folN_len (c : Cn) (x : Bd) (l : List Int) (n : Nat) : (folN c x l n).length = n + 1 := by simp [folN]
theorem folN_succ (c : Cn) (x : Bd) (l : List Int) (n : Nat) : folN c x l (n + 1) = folN c x l n ++ [runS c x (l.take (n + 1))] := by unfold folN; rw [List.range_succ, List.map_append]; rfl
theorem folN_at (c : Cn) (x : Bd) (l : List Int) (n k : Nat) (h : k ≤ n) : (folN c x l n)[k]'(by rw [folN_len]; omega) = runS c x (l.take k) := by simp [folN]
theorem r2_grow {w W W' : World} {A B : Array Value} {g : Nat} (h : R2 w W A B) (hg : W.grownBy W' (some g)) (hb : w.heap.size + 2 ≤ g) : R2 w W' A B :=
  ⟨(hg.block _ (lt_of_block h.can) (by intro e; cases e; omega)).trans h.can, (hg.block _ (lt_of_block h.res) (by intro e; cases e; omega)).trans h.res, h.low.grown hg h.low.size (fun j e => by cases e; omega)⟩
/-- What the region of the append stands on. -/
def RawFo (w : World) (A B : Array Value) (g n ba o : Nat) (u b t : Value) (w1 : World) : Prop :=
  w1.cell? ⟨g, n * 2, none⟩ = some u ∧ w1.cell? ⟨g, n * 2 + 1, none⟩ = some b ∧ w1.cell? ⟨ba, o + n, none⟩ = some t ∧ R2 w w1 A B
theorem RawFo.keep {w W W' : World} {A B : Array Value} {g n ba o : Nat} {u b t : Value} (h : RawFo w A B g n ba o u b t W) (hb : Below W.heap.size W W') : RawFo w A B g n ba o u b t W' :=
  ⟨keep_cell hb h.1, keep_cell hb h.2.1, keep_cell hb h.2.2.1, h.2.2.2.keep hb⟩
end Go.Proofs.YtihbjimnjhfpeaaGreat

/- A region that draws its order, whose operations only read, and whose callees read and may make memory of their own: one walk, in the order of the text. No seat's names. -/
namespace Go.Proofs.YtihbjimnjhfpeaaGreat
open Go.RowKit

/-- A world in which all that lay in w lies as it was. -/
structure LowBy (w : World) where
  W : World
  low : Below w.heap.size w W
instance (w : World) : Inhabited (LowBy w) := ⟨⟨w, Below.refl _ _⟩⟩
section
variable {P : Program}
theorem wp_region_quiet_low {id : Nat} {Q : Exit → Act → World → Prop} {a : Act} {w : World} {l : List Oper} (hm : P.follows .mixedOrders = true) (hB : Region.lexB .any l.toArray = true)
    (h : wpQuiet P l.toArray (fun w' => ∃ p : LowBy w, w' = p.W) (fun a' => ∀ w', (∃ p : LowBy w, w' = p.W) → Q .normal a' w') l a) : (Code.region id l.toArray true).wp P Q a w :=
  wp_region_quiet (C := fun w' => ∃ p : LowBy w, w' = p.W) hm hB ⟨⟨w.drew, (Below.refl _ _).drew⟩, rfl⟩ (by simpa using h)
/-- The list of what is left behind a letter: else what is behind a guard that is not wanted is opened again and again. -/
theorem wp_region_low {id : Nat} {Q : Exit → Act → World → Prop} {a : Act} {w : World} {l : List Oper} (hm : P.follows .mixedOrders = true) (hB : Region.lexB .any l.toArray = true)
    (h : ∀ R, Hid (R = l) → wpQuiet P l.toArray (fun w' => ∃ p : LowBy w, w' = p.W) (fun a' => ∀ w', (∃ p : LowBy w, w' = p.W) → Q .normal a' w') R a) : (Code.region id l.toArray true).wp P Q a w :=
  wp_region_quiet_low hm hB (h l rfl)
theorem low_step {ops : Array Oper} {C : World → Prop} {Q : Act → Prop} {a : Act} {o : Oper} {R rest : List Oper} (hR : Hid (R = o :: rest))
    (h : ∀ R' : List Oper, Hid (R' = rest) → ∀ K : Act → Prop, (∀ a, wpQuiet P ops C Q R' a → K a) → if Region.wanted o (yielded ops a.tmps) then o.quiet P a C K else K (a.put o.dst undef)) : wpQuiet P ops C Q R a := by
  rw [hR.out]
  exact wpQuiet_step (h rest rfl)
theorem low_nil {ops : Array Oper} {C : World → Prop} {Q : Act → Prop} {a : Act} {R : List Oper} (hR : Hid (R = [])) (h : Q a) : wpQuiet P ops C Q R a := by
  rw [hR.out]
  exact wpQuiet_nil h
theorem low_of {f : FuncId} {args : Array Value} {w : World} {p : LowBy w} {v : Value}
    (h : Calls P f args p.W fun e w' => e = .returned v ∧ Below p.W.heap.size p.W w') : Calls P f args p.W fun e w'' => e = .returned v ∧ ∃ q : LowBy w, w'' = q.W :=
  h.mono fun _ w' ⟨he, hb⟩ => ⟨he, ⟨w', bstep p.low p.low.size hb⟩, rfl⟩
theorem low_of_same {f : FuncId} {args : Array Value} {w : World} {p : LowBy w} {v : Value}
    (h : Calls P f args p.W fun e w' => e = .returned v ∧ p.W = w') : Calls P f args p.W fun e w'' => e = .returned v ∧ ∃ q : LowBy w, w'' = q.W :=
  h.mono fun _ _ ⟨he, hb⟩ => ⟨he, p, hb.symm⟩
theorem low_cell {w : World} {b i : Nat} {v : Value} (h : w.cell? ⟨b, i, none⟩ = some v) (p : LowBy w) : p.W.cell? ⟨b, i, none⟩ = some v := keep_cell p.low h
end
end Go.Proofs.YtihbjimnjhfpeaaGreat

/- Walks of Follow of both, whatever comes in; of Step, Run and SameBodies of the reference: contracts. -/
namespace Go.Proofs.YtihbjimnjhfpeaaGreat
open Go.RowKit

/-- What Follow hands back. -/
def folO (r l a b k a2 b2 : Int) (x : Bd) (p : List Int) : List Bd × Int :=
  if chkE (bothB r l a b k a2 b2 x.1 x.2) p = 0 then (folL (cnOf r l a b k a2 b2) x p, 0) else ([], chkE (bothB r l a b k a2 b2 x.1 x.2) p)
theorem folO_ok {r l a b k a2 b2 : Int} {x : Bd} {p : List Int} (h : chkE (bothB r l a b k a2 b2 x.1 x.2) p = 0) : folO r l a b k a2 b2 x p = (folL (cnOf r l a b k a2 b2) x p, 0) := by unfold folO; rw [if_pos h]
theorem folO_err {r l a b k a2 b2 : Int} {x : Bd} {p : List Int} (h : chkE (bothB r l a b k a2 b2 x.1 x.2) p ≠ 0) : folO r l a b k a2 b2 x p = ([], chkE (bothB r l a b k a2 b2 x.1 x.2) p) := by unfold folO; rw [if_neg h]
theorem folL_len (c : Cn) (x : Bd) (p : List Int) : (folL c x p).length = p.length + 1 := by unfold folL; rw [List.length_map, seqH_len]
theorem folL_at (c : Cn) (x : Bd) (p : List Int) (k : Nat) (h : k ≤ p.length) : (folL c x p)[k]'(by rw [folL_len]; omega) = runS c x (p.take k) := by
  have h1 := seqH_get c x p k h
  unfold folL
  rw [List.getElem_map]
  have h2 := (List.getElem?_eq_some_iff.1 h1).2
  rw [h2]
end Go.Proofs.YtihbjimnjhfpeaaGreat
