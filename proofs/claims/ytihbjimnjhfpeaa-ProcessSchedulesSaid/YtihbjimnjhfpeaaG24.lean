/- Texts of this seat, one behind the other. -/
import Derived.Test.YtihbjimnjhfpeaaG22
import Derived.Test.YtihbjimnjhfpeaaG23
/- Walks of the reference's Root, rates, told, Rate and RateUp: contracts. -/
namespace Go.Proofs.Ytihbjimnjhfpeaa.Lt
open Go.RowKit Go.Lib





end Go.Proofs.Ytihbjimnjhfpeaa.Lt

/- Walks of Least of package lethal, with sort.Search over its test: contracts. -/
namespace Go.Proofs.Ytihbjimnjhfpeaa.Lt
open Go.RowKit Go.Lib Go.Maps

/-- The least temperature with at least a rate. -/
structure IsLeast (r : Int) (Z : Nat) (rate T : Int) : Prop where
  lo : -1000 ≤ T
  hi : T ≤ 2000
  warm : rate ≤ (Pm.rateD r Z T : Nat)
  less : T = -1000 ∨ ((Pm.rateD r Z (T - 1) : Nat) : Int) < rate
theorem IsLeast.same {r : Int} {Z : Nat} {q T U : Int} (hz : 1 ≤ Z) (h1 : IsLeast r Z q T) (h2 : IsLeast r Z q U) : T = U := by
  rcases Int.lt_trichotomy T U with h | h | h
  · rcases h2.less with h3 | h3
    · have := h1.lo; omega
    · have := Pm.rateD_mono (r := r) (z := Z) (show 1 ≤ (Z : Int) by omega) (show T ≤ U - 1 by omega)
      have := h1.warm; omega
  · exact h
  · rcases h1.less with h3 | h3
    · have := h2.lo; omega
    · have := Pm.rateD_mono (r := r) (z := Z) (show 1 ≤ (Z : Int) by omega) (show U ≤ T - 1 by omega)
      have := h2.warm; omega
theorem rate_top {r : Int} {Z : Nat} (hr : r ≤ 800) (hz1 : 1 ≤ Z) (hz2 : Z ≤ 60) : Pm.rateD r Z 2000 = 10000000000000000 := by
  have e : Pm.expo r Z 2000 = 16 * (Z : Int) := by unfold Pm.expo; omega
  rw [Pm.rateD_pos (by omega), e, show (16 * (Z : Int)).toNat = 16 * Z by omega, Int.toNat_natCast, Pm.root_whole 16 Z hz1]

def testB (r : Int) (Z : Nat) (q : Int) (m : Nat) : Bool := decide (q ≤ (Pm.rateD r Z (-1000 + m) : Nat))
theorem least_found {r : Int} {Z : Nat} {q : Int} {n : Nat} (hr : r ≤ 800) (hz1 : 1 ≤ Z) (hz2 : Z ≤ 60) (hq : q ≤ 10000000000000000) (h : Found 3000 (testB r Z q) n) : IsLeast r Z q (-1000 + n) := by
  obtain ⟨h0, h1, h2⟩ := h
  refine ⟨by omega, by omega, ?_, ?_⟩
  · rcases h2 with rfl | h2
    · rw [show (-1000 + ((3000 : Nat) : Int)) = 2000 by rfl, rate_top hr hz1 hz2]; omega
    · exact of_decide_eq_true h2
  · rcases h1 with rfl | h1
    · exact .inl rfl
    · rcases Nat.eq_zero_or_pos n with rfl | hn
      · exact .inl rfl
      · have := of_decide_eq_false h1
        rw [show (-1000 + ((n - 1 : Nat) : Int)) = -1000 + (n : Int) - 1 by omega] at this
        exact .inr (by omega)


/-- The cells of a rates box at block L. -/
def Box6 (wr : World) (L : Nat) (s : ByteArray) (r : Int) (Z : Nat) (d g : Int) (mb : Nat) : Prop :=
  wr.cell? ⟨L, 0, none⟩ = some (.string s) ∧ wr.cell? ⟨L, 1, none⟩ = some (.int .i64 r) ∧ wr.cell? ⟨L, 2, none⟩ = some (.int .i64 Z) ∧ wr.cell? ⟨L, 3, none⟩ = some (.int .i64 d) ∧ wr.cell? ⟨L, 4, none⟩ = some (.int .i64 g) ∧ wr.cell? ⟨L, 5, none⟩ = some (.map (some mb)) ∧ L < wr.heap.size
theorem grown_cell {w w' : World} {row : Option Nat} {b o : Nat} {v : Value} (hg : w.grownBy w' row) (hb : b < w.heap.size) (hne : some b ≠ row) (h : w.cell? ⟨b, o, none⟩ = some v) : w'.cell? ⟨b, o, none⟩ = some v := by
  rw [World.cell?_of_block (a := ⟨b, o, none⟩) (hg.block b hb hne)]; exact h
theorem Box6.grown {w w' : World} {row : Option Nat} {L mb : Nat} {s : ByteArray} {r d g : Int} {Z : Nat} (h : Box6 w L s r Z d g mb) (hg : w.grownBy w' row) (hne : some L ≠ row) : Box6 w' L s r Z d g mb := by
  obtain ⟨h0, h1, h2, h3, h4, h5, h6⟩ := h
  exact ⟨grown_cell hg h6 hne h0, grown_cell hg h6 hne h1, grown_cell hg h6 hne h2, grown_cell hg h6 hne h3, grown_cell hg h6 hne h4, grown_cell hg h6 hne h5, Nat.lt_of_lt_of_le h6 hg.size⟩
/-- What Least's test works on: the rates at L (their map at mb), the rate at Q. -/
def LsS (s : ByteArray) (r : Int) (Z : Nat) (d g q : Int) (L Q mb : Nat) (W : World) (c : Nat) (wr : World) : Prop :=
  Box6 wr L s r Z d g mb ∧ wr.cell? ⟨Q, 0, none⟩ = some (.int .i64 q) ∧ Q < wr.heap.size ∧ mb ≠ L ∧ mb ≠ Q ∧ MapI r Z wr mb c ∧ W.grownBy wr (some mb)

theorem LsS.cells {s : ByteArray} {r : Int} {Z : Nat} {d g q : Int} {L Q mb : Nat} {W : World} {c : Nat} {wr : World} (h : LsS s r Z d g q L Q mb W c wr) :
    wr.cell? ⟨L, 0, none⟩ = some (.string s) ∧ wr.cell? ⟨L, 1, none⟩ = some (.int .i64 r) ∧ wr.cell? ⟨L, 2, none⟩ = some (.int .i64 Z) ∧ wr.cell? ⟨L, 3, none⟩ = some (.int .i64 d) ∧ wr.cell? ⟨L, 4, none⟩ = some (.int .i64 g) ∧ wr.cell? ⟨L, 5, none⟩ = some (.map (some mb)) ∧ wr.cell? ⟨Q, 0, none⟩ = some (.int .i64 q) := by
  obtain ⟨⟨h0, h1, h2, h3, h4, h5, _⟩, h6, _⟩ := h
  exact ⟨h0, h1, h2, h3, h4, h5, h6⟩
theorem LsS.next {s : ByteArray} {r : Int} {Z : Nat} {d g q : Int} {L Q mb : Nat} {W : World} {c : Nat} {w w' : World} (h : LsS s r Z d g q L Q mb W c w) (hg : w.grownBy w' (some mb)) (hM : MapI r Z w' mb (c + 1)) : LsS s r Z d g q L Q mb W (c + 1) w' := by
  obtain ⟨h1, h2, h3, h4, h5, _, h7⟩ := h
  exact ⟨h1.grown hg (fun e => h4 (Option.some.inj e).symm), grown_cell hg h3 (fun e => h5 (Option.some.inj e).symm) h2, Nat.lt_of_lt_of_le h3 hg.size, h4, h5, hM, gtrans h7 hg⟩

theorem LsS.below {s : ByteArray} {r : Int} {Z : Nat} {d g q : Int} {L Q mb : Nat} {W : World} {c : Nat} {w w' : World} (h : LsS s r Z d g q L Q mb W c w) (hb : Below w.heap.size w w') : LsS s r Z d g q L Q mb W c w' := by
  obtain ⟨h1, h2, h3, h4, h5, h6, h7⟩ := h
  exact ⟨h1.grown (gbelow hb) (fun e => h4 (Option.some.inj e).symm), keep_cell hb h2, Nat.lt_of_lt_of_le h3 hb.size, h4, h5, h6.below hb, gtrans h7 (gbelow hb)⟩

end Go.Proofs.Ytihbjimnjhfpeaa.Lt

/- Walks of SameInts and Table of both: contracts. -/
namespace Go.Proofs.Ytihbjimnjhfpeaa.Lt
open Go.RowKit Go.Lib Go.Maps


/-- The rates at lo, lo + 1, .. -/
def ratesL (r : Int) (Z : Nat) (lo : Int) (n : Nat) : List Nat := (List.range n).map fun i => Pm.rateD r Z (lo + (i : Nat))
theorem ratesL_len (r : Int) (Z : Nat) (lo : Int) (n : Nat) : (ratesL r Z lo n).length = n := by simp [ratesL]
theorem ratesL_succ (r : Int) (Z : Nat) (lo : Int) (n : Nat) : ratesL r Z lo (n + 1) = ratesL r Z lo n ++ [Pm.rateD r Z (lo + (n : Nat))] := by simp [ratesL, List.range_succ]
theorem ratesL_get (r : Int) (Z : Nat) (lo : Int) (n k : Nat) (h : k < (ratesL r Z lo n).length) : (ratesL r Z lo n)[k] = Pm.rateD r Z (lo + (k : Nat)) := by simp [ratesL]

/-- A killer's cells at the foot of w, in a later world. -/
def KBox (s : ByteArray) (r z d g : Int) (w wr : World) : Prop :=
  wr.cell? ⟨w.heap.size, 0, none⟩ = some (.string s) ∧ wr.cell? ⟨w.heap.size, 1, none⟩ = some (.int .i64 r) ∧ wr.cell? ⟨w.heap.size, 2, none⟩ = some (.int .i64 z) ∧ wr.cell? ⟨w.heap.size, 3, none⟩ = some (.int .i64 d) ∧ wr.cell? ⟨w.heap.size, 4, none⟩ = some (.int .i64 g) ∧ w.heap.size < wr.heap.size ∧ Below w.heap.size w wr
theorem KBox.grown {s : ByteArray} {r z d g : Int} {w wr w1 : World} {row : Option Nat} (h : KBox s r z d g w wr) (hg : wr.grownBy w1 row) (hr : ∀ k, row = some k → w.heap.size < k) : KBox s r z d g w w1 := by
  obtain ⟨h0, h1, h2, h3, h4, h5, h6⟩ := h
  have hne : some w.heap.size ≠ row := fun e => absurd (hr _ e.symm) (Nat.lt_irrefl _)
  exact ⟨grown_cell hg h5 hne h0, grown_cell hg h5 hne h1, grown_cell hg h5 hne h2, grown_cell hg h5 hne h3, grown_cell hg h5 hne h4, Nat.lt_of_lt_of_le h5 hg.size, h6.grown hg h6.size (fun k hk => Nat.le_of_lt (hr k hk))⟩
theorem KBox.append {s : ByteArray} {r z d g : Int} {w wr w1 : World} {v : Value} {l : List Nat} {o : Obj} (h : KBox s r z d g w wr) (hv : RowV wr (w.heap.size + 1) v l) (hg : (wr.alloc o).grownBy w1 v.ownBlock) : KBox s r z d g w w1 :=
  (h.grown (World.grownBy_alloc wr o none) (fun k hk => by cases hk)).grown hg (fun k hk => (World.ownsRow.lt hv k hk).1)
theorem RowV.keep {w w2 : World} {base : Nat} {v : Value} {l : List Nat} (h : RowV w base v l) (hb : Below w.heap.size w w2) : RowV w2 base v l :=
  World.ownsRow.kept h ⟨hb.os, hb.tape, hb.output, hb.size, fun j hj _ => hb.block j hj⟩ (row := none) (by cases v.ownBlock <;> simp)

/-- What Table hands back. -/
def TableP (r : Int) (Z : Nat) (lo : Int) (n : Nat) (w : World) (e : Ending) (w' : World) : Prop := ∃ v, e = .returned (.tuple #[v, .int .i64 0]) ∧ RowR w' v (ratesL r Z lo n) ∧ Below w.heap.size w w'

end Go.Proofs.Ytihbjimnjhfpeaa.Lt
