/- Texts of this seat, one behind the other. -/
import Derived.Test.YtihbjimnjhfpeaaG25
/- Walk of ask: contract. -/
namespace Go.Proofs.Ytihbjimnjhfpeaa.Lt
open Go.RowKit Go.Lib Go.Maps

section
variable {s : ByteArray} {r z d g : Int} {w wr w2 : World} {b gD gU cD cU n q : Nat} {l1 l2 : List Int} {vD vU : Value}
end

/-- The rows of kept rates: not asked for, or the rate. -/
def RowsOk (r z : Int) (l1 l2 : List Int) : Prop := l1.length = 1003 ∧ l2.length = 1003 ∧ ∀ q : Nat, q < 1003 → l1[q]? = some (-1) ∨ (l1[q]? = some ((Pm.rateD r z ((q : Int) - 200) : Nat) : Int) ∧ l2[q]? = some ((Pm.rateU r z ((q : Int) - 200) : Nat) : Int))
theorem RowsOk.set {r z : Int} {l1 l2 : List Int} (h : RowsOk r z l1 l2) (q : Nat) : RowsOk r z (l1.set q ((Pm.rateD r z ((q : Int) - 200) : Nat) : Int)) (l2.set q ((Pm.rateU r z ((q : Int) - 200) : Nat) : Int)) := by
  obtain ⟨h1, h2, h3⟩ := h
  refine ⟨by rw [List.length_set]; exact h1, by rw [List.length_set]; exact h2, fun k hk => ?_⟩
  by_cases e : q = k
  · subst e
    exact .inr ⟨by rw [List.getElem?_set_self (by omega)], by rw [List.getElem?_set_self (by omega)]⟩
  · rw [List.getElem?_set_ne e, List.getElem?_set_ne e]; exact h3 k hk
def KnownAt (r z : Int) (l1 l2 : List Int) (q : Nat) : Prop := l1[q]? = some ((Pm.rateD r z ((q : Int) - 200) : Nat) : Int) ∧ l2[q]? = some ((Pm.rateU r z ((q : Int) - 200) : Nat) : Int)
theorem KnownAt.put {r z : Int} {l1 l2 : List Int} {q : Nat} (h1 : q < l1.length) (h2 : q < l2.length) :
    (∀ k, KnownAt r z l1 l2 k → KnownAt r z (l1.set q ((Pm.rateD r z ((q : Int) - 200) : Nat) : Int)) (l2.set q ((Pm.rateU r z ((q : Int) - 200) : Nat) : Int)) k) ∧
    (l1.set q ((Pm.rateD r z ((q : Int) - 200) : Nat) : Int))[q]? = some ((Pm.rateD r z ((q : Int) - 200) : Nat) : Int) ∧ (l2.set q ((Pm.rateU r z ((q : Int) - 200) : Nat) : Int))[q]? = some ((Pm.rateU r z ((q : Int) - 200) : Nat) : Int) := by
  refine ⟨fun k hk => ?_, List.getElem?_set_self h1, List.getElem?_set_self h2⟩
  by_cases e : q = k
  · subst e
    exact ⟨List.getElem?_set_self h1, List.getElem?_set_self h2⟩
  · unfold KnownAt
    rw [List.getElem?_set_ne e, List.getElem?_set_ne e]; exact hk
theorem rowsOk_start (r z : Int) : RowsOk r z (negs 1003) (negs 1003) := ⟨negs_len _, negs_len _, fun q hq => .inl (by unfold negs; rw [List.getElem?_replicate, if_pos hq])⟩


/-- What a cell holds, whatever it is. -/
def cellV (w : World) (g q : Nat) : Value := (w.cell? ⟨g, q, none⟩).getD (.int .i64 0)
theorem cellV_of {w : World} {g q : Nat} {u : Value} (h : w.cell? ⟨g, q, none⟩ = some u) : w.cell? ⟨g, q, none⟩ = some (cellV w g q) := by unfold cellV; rw [h]; rfl
theorem cellV_set {w : World} {g q h k : Nat} {u : Value} (e : w.cell? ⟨g, q, none⟩ = some (cellV w g q)) : (w.setCell ⟨h, k, none⟩ u).cell? ⟨g, q, none⟩ = some (cellV (w.setCell ⟨h, k, none⟩ u) g q) := by
  by_cases he : (⟨h, k, none⟩ : Addr) = ⟨g, q, none⟩
  · exact cellV_of (u := u) (by rw [he]; exact World.cell?_setCell_same' _ _ _ (by rw [e]; rfl))
  · exact cellV_of (u := cellV w g q) (by rw [World.cell?_setCell_other _ _ _ _ he]; exact e)
/-- What a region of ask holds. -/
def AskS (s : ByteArray) (r z d g : Int) (b gD gU cD cU q : Nat) (w' : World) : Prop :=
  w'.cell? ⟨b, 0, none⟩ = some (.string s) ∧ w'.cell? ⟨b, 1, none⟩ = some (.int .i64 r) ∧ w'.cell? ⟨b, 2, none⟩ = some (.int .i64 z) ∧ w'.cell? ⟨b, 3, none⟩ = some (.int .i64 d) ∧ w'.cell? ⟨b, 4, none⟩ = some (.int .i64 g) ∧ w'.cell? ⟨b, 5, none⟩ = some (.slice (some ⟨gD, 0, none⟩) 1003 cD) ∧ w'.cell? ⟨b, 6, none⟩ = some (.slice (some ⟨gU, 0, none⟩) 1003 cU) ∧
  w'.cell? ⟨gD, q, none⟩ = some (cellV w' gD q) ∧ w'.frozen? ⟨gD, q, none⟩ = false ∧ w'.cell? ⟨gU, q, none⟩ = some (cellV w' gU q) ∧ w'.frozen? ⟨gU, q, none⟩ = false
theorem AskS.store {s : ByteArray} {r z d g : Int} {b gD gU cD cU q h k : Nat} {w' : World} {u : Value} (e : AskS s r z d g b gD gU cD cU q w') (hb : h ≠ b) : AskS s r z d g b gD gU cD cU q (w'.setCell ⟨h, k, none⟩ u) := by
  obtain ⟨h0, h1, h2, h3, h4, h5, h6, h7, h8, h9, h10⟩ := e
  have ho : ∀ i v, w'.cell? ⟨b, i, none⟩ = some v → (w'.setCell ⟨h, k, none⟩ u).cell? ⟨b, i, none⟩ = some v := fun i v e => by
    rw [World.cell?_setCell_other _ _ _ _ (fun e => hb (by cases e; rfl))]; exact e
  exact ⟨ho _ _ h0, ho _ _ h1, ho _ _ h2, ho _ _ h3, ho _ _ h4, ho _ _ h5, ho _ _ h6, cellV_set h7, (World.frozen?_setCell _ _ _ _).trans h8, cellV_set h9, (World.frozen?_setCell _ _ _ _).trans h10⟩

/-- All blocks but two stay. -/
structure Still (gD gU : Nat) (w w' : World) : Prop where
  size : w.heap.size ≤ w'.heap.size
  block : ∀ j, j < w.heap.size → j ≠ gD → j ≠ gU → w'.heap[j]? = w.heap[j]?
theorem Still.refl (gD gU : Nat) (w : World) : Still gD gU w w := ⟨Nat.le_refl _, fun _ _ _ _ => rfl⟩
theorem Still.trans {gD gU : Nat} {a b c : World} (h : Still gD gU a b) (h' : Still gD gU b c) : Still gD gU a c :=
  ⟨Nat.le_trans h.size h'.size, fun j hj h1 h2 => (h'.block j (Nat.lt_of_lt_of_le hj h.size) h1 h2).trans (h.block j hj h1 h2)⟩
theorem Still.below {gD gU : Nat} {a b : World} (h : Below a.heap.size a b) : Still gD gU a b := ⟨h.size, fun j hj _ _ => h.block j hj⟩
theorem Still.setD {gD gU q : Nat} {a b : World} {u : Value} (h : Still gD gU a b) : Still gD gU a (b.setCell ⟨gD, q, none⟩ u) :=
  ⟨by rw [size_set]; exact h.size, fun j hj h1 h2 => (Below.heap_setCell b ⟨gD, q, none⟩ u j h1).trans (h.block j hj h1 h2)⟩
theorem Still.setU {gD gU q : Nat} {a b : World} {u : Value} (h : Still gD gU a b) : Still gD gU a (b.setCell ⟨gU, q, none⟩ u) :=
  ⟨by rw [size_set]; exact h.size, fun j hj h1 h2 => (Below.heap_setCell b ⟨gU, q, none⟩ u j h2).trans (h.block j hj h1 h2)⟩

end Go.Proofs.Ytihbjimnjhfpeaa.Lt

/- Walk of At: contract. -/
namespace Go.Proofs.Ytihbjimnjhfpeaa.Lt
open Go.RowKit Go.Lib Go.Maps



end Go.Proofs.Ytihbjimnjhfpeaa.Lt
