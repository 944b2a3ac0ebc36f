/- Texts of this seat, one behind the other. -/
import Derived.Test.YtihbjimnjhfpeaaGreatR21
import Derived.Test.YtihbjimnjhfpeaaGreatR05
import Derived.Test.YtihbjimnjhfpeaaGreatR13
import Derived.ShutString
import Derived.Test.YtihbjimnjhfpeaaGreatR01
import Derived.ProofKit
import Derived.OpenShut
import Derived.ChangeOld
import Derived.Lib.SmallJoins
import Derived.Deep.Fields
import Derived.Deep.Slices
import Derived.ChangeSame
import Derived.Test.YtihbjimnjhfpeaaGreatR07
import Derived.Laws.OwnMore
/- What comes in for a Food; small4, awake4: contracts. -/
namespace Go.Proofs.YtihbjimnjhfpeaaGreat
open Go.ChangeShapes Go.WideShapes Go.ChangeAt Go.RowKit Go.Joins Go.Deep
open Go.ChangeMaps (open_string shut_string)

theorem cellsFd : Tryz.prog.cellsOf 27 = 13 := by kernel_rfl
theorem cellsKl : Tryz.prog.cellsOf 25 = 5 := by kernel_rfl
theorem cellsSt : Tryz.prog.cellsOf 9 = 1 := by kernel_rfl
section
variable {H : Type} {enc : TypeId × Value → H} {w : World} {base : Nat} {spare : Nat → Bool} {held : Bool}
set_option maxRecDepth 100000 in
theorem trod_killer {n : Nat} {c0 c1 c2 c3 c4 : Value} {y : DataW H × List MemPlace} (h : DataW.trod enc Tryz.prog w base spare held n 25 [c0, c1, c2, c3, c4] = some y) :
    ∃ q : Kl, c0 = .string q.s ∧ c1 = .int .i64 q.r ∧ c2 = .int .i64 q.z ∧ c3 = .int .i64 q.d ∧ c4 = .int .i64 q.g ∧ q.s.size ≤ maxLen := by
  obtain ⟨xs, m, _, hx, _, hlen, hg⟩ := DataW.trod_struct Tryz.underlying25 h
  match xs, hlen with
  | [y0, y1, y2, y3, y4], _ =>
    have g0 := hg 0 _ rfl; have g1 := hg 1 _ rfl; have g2 := hg 2 _ rfl; have g3 := hg 3 _ rfl; have g4 := hg 4 _ rfl
    simp [cellsI, cellsSt] at g0 g1 g2 g3 g4
    obtain ⟨s, e0, _, ws⟩ := DataW.trod_string Tryz.underlying9 g0
    obtain ⟨n1, e1, _⟩ := DataW.trod_int Tryz.underlying3 g1
    obtain ⟨n2, e2, _⟩ := DataW.trod_int Tryz.underlying3 g2
    obtain ⟨n3, e3, _⟩ := DataW.trod_int Tryz.underlying3 g3
    obtain ⟨n4, e4, _⟩ := DataW.trod_int Tryz.underlying3 g4
    simp at e0 e1 e2 e3 e4
    exact ⟨⟨s, n1, n2, n3, n4⟩, e0, e1, e2, e3, e4, ws⟩
set_option maxRecDepth 100000 in
theorem open_food {rr : Reach} {b0 : Nat} {v : Value} {d : DataW H} {p : List MemPlace} (hv : Value.okWide Tryz.prog w rr b0 27 v) (h : DataW.Trod enc Tryz.prog w base spare held 27 v d p) :
    ∃ (r l a b k a2 b2 : Int) (q : Kl) (t : Int), v = .agg #[.int .i64 r, .int .i64 l, .int .i64 a, .int .i64 b, .int .i64 k, .int .i64 a2, .int .i64 b2, .string q.s, .int .i64 q.r, .int .i64 q.z, .int .i64 q.d, .int .i64 q.g, .int .i64 t] ∧ q.s.size ≤ maxLen ∧ (Lit.int .i64 t).wf = true := by
  obtain ⟨cs, rfl, hsz⟩ := okWide_struct Tryz.underlying27 hv
  obtain ⟨ls⟩ := cs
  match ls, hsz.trans cellsFd with
  | [c0, c1, c2, c3, c4, c5, c6, c7, c8, c9, c10, c11, c12], _ =>
    obtain ⟨fuel, hf⟩ := h
    obtain ⟨xs, n, _, hx, _, hlen, hg⟩ := DataW.trod_struct Tryz.underlying27 hf
    match xs, hlen with
    | [y0, y1, y2], _ =>
      have g0 := hg 0 _ rfl; have g1 := hg 1 _ rfl; have g2 := hg 2 _ rfl
      simp [Value.cells, cellsC, cellsKl, cellsI] at g0 g1 g2
      obtain ⟨r, l, a, b, k, a2, b2, rfl, rfl, rfl, rfl, rfl, rfl, rfl⟩ := trod_can g0
      obtain ⟨q, rfl, rfl, rfl, rfl, rfl, ws⟩ := trod_killer g1
      obtain ⟨t, e2, _, wt⟩ := DataW.trod_int Tryz.underlying3 g2
      simp at e2
      subst e2
      exact ⟨r, l, a, b, k, a2, b2, q, t, rfl, ws, wt⟩
end

/-- Whether a can is small, and its baths few. -/
def smallB (r l : Int) (n m : Nat) : Bool := (decide (r ≤ 3) && decide (l ≤ 4)) && decide (n ≤ m)
def kl0 : Kl := ⟨⟨#[97]⟩, 484, 40, 13, 12⟩
theorem aw4_rate : Lt.Pm.rateD 484 40 484 = 1000000 := by
  have h := Lt.Pm.rateD_whole (r := 484) (z := 40) (t := 484) (by decide) (by decide) (by decide)
  rw [h]
  decide
theorem two_row {W : World} {n : Nat} (x y : Int) (T : TypeId) (h : W.heap.size = n) : RowI (W.alloc (.cells #[.int .i64 x, .int .i64 y] T)) (.slice (some ⟨n, 0, none⟩) 2 2) [x, y] := by
  subst h
  refine .inr ⟨W.heap.size, 0, 2, rfl, by simp [maxLen], fun k hk => ?_⟩
  match k, hk with
  | 0, _ => exact cell_alloc_new W _ T (0, 0) 0
  | 1, _ => exact cell_alloc_new W _ T (0, 0) 1
end Go.Proofs.YtihbjimnjhfpeaaGreat

/- Walk of TopSterile. -/
namespace Go.Proofs.YtihbjimnjhfpeaaGreat
open Go.RowKit Go.Lib

end Go.Proofs.YtihbjimnjhfpeaaGreat

/- Plain facts of programs and records: what the laws of layer 3 speak of. -/
namespace Go.Proofs.YtihbjimnjhfpeaaGreat.Rt
open Go.RowKit

/-- A reading, a step, a deviation. -/
structure Rd where
  s : Int
  t : Int
  c : Int
  b : Int
structure St where
  k : Int
  s : Int
  n : Int
structure Tri where
  x : Int
  y : Int
  z : Int
/-- All numbers below n meet a test. -/
def allB (n : Nat) (p : Nat → Bool) : Bool := (List.range n).all p
theorem allB_iff {n : Nat} {p : Nat → Bool} : allB n p = true ↔ ∀ j, j < n → p j = true := by simp [allB]
theorem allB_end {n : Nat} {p : Nat → Bool} (h : ∀ j, j < n → p j = true) : allB n p = true := allB_iff.2 h
theorem allB_bad {n k : Nat} {p : Nat → Bool} (hk : k < n) (h : p k = false) : allB n p = false := by
  rw [Bool.eq_false_iff]
  intro h0
  rw [allB_iff.1 h0 k hk] at h
  cases h
theorem all_step {p : Nat → Bool} {k : Nat} (h : ∀ j, j < k → p j = true) (hp : p k = true) : ∀ j, j < k + 1 → p j = true := by
  intro j hj
  rcases Nat.lt_or_ge j k with h1 | h1
  · exact h j h1
  · obtain rfl : j = k := by omega
    exact hp
/-- Two numbers around one. -/
def inB (a b c : Int) : Bool := decide (b ≤ a) && decide (a ≤ c)
theorem inB_iff {a b c : Int} : inB a b c = true ↔ b ≤ a ∧ a ≤ c := by simp [inB]
theorem inB_not {a b c : Int} : inB a b c = false ↔ ¬ (b ≤ a ∧ a ≤ c) := by rw [← inB_iff]; simp

/-- A step that is valid. -/
def loK (k : Int) : Int := if k = 1 ∨ k = 2 then 0 else 1
def hiK (k : Int) : Int := if k = 2 then 0 else 2000
def stepB (x : St) : Bool := inB x.k 1 4 && inB x.s 0 200000 && inB x.n (loK x.k) (hiK x.k)
/-- A program that is valid. -/
def progB (m : Nat) (p : Nat → St) : Bool := inB m 1 16 && allB m fun i => stepB (p i)
/-- A reading within bounds. -/
def readB (x : Rd) : Bool := inB x.t (-1000000) 1000000 && inB x.c (-1000000) 1000000 && inB x.b (-1000000) 1000000
/-- What the step of a reading may be. -/
def loS (r : Nat → Rd) : Nat → Int
  | 0 => 0
  | i + 1 => (r i).s
def hiS (m : Nat) (r : Nat → Rd) : Nat → Int
  | 0 => 0
  | i + 1 => min ((r i).s + 1) ((m : Int) - 1)
def recAt (m : Nat) (r : Nat → Rd) (i : Nat) : Bool := inB (r i).s (loS r i) (hiS m r i) && readB (r i)
/-- A record that is valid for a program. -/
def recB (m : Nat) (p : Nat → St) (n : Nat) (r : Nat → Rd) : Bool := progB m p && decide (n ≤ 2000) && allB n (recAt m r)
theorem recB_iff {m : Nat} {p : Nat → St} {n : Nat} {r : Nat → Rd} : recB m p n r = true ↔ progB m p = true ∧ n ≤ 2000 ∧ ∀ j, j < n → recAt m r j = true := by
  simp only [recB, Bool.and_eq_true, allB_iff, decide_eq_true_iff, and_assoc]
theorem progB_iff {m : Nat} {p : Nat → St} : progB m p = true ↔ (1 ≤ (m : Int) ∧ (m : Int) ≤ 16) ∧ ∀ j, j < m → stepB (p j) = true := by
  simp only [progB, Bool.and_eq_true, allB_iff, inB_iff]

/-- A mark. -/
def mkB (n e i : Nat) : Bool := decide (i % e = 0) || decide (i + 1 = n)
/-- The baths of the marks among the first k readings. -/
def marksL (r : Nat → Rd) (n e k : Nat) : List Int := ((List.range k).filter (mkB n e)).map fun i => (r i).b
/-- The baths of the first k readings. -/
def bathsL (r : Nat → Rd) (k : Nat) : List Int := (List.range k).map fun i => (r i).b
theorem bathsL_succ (r : Nat → Rd) (k : Nat) : bathsL r (k + 1) = bathsL r k ++ [(r k).b] := by simp [bathsL, List.range_succ]
theorem bathsL_len (r : Nat → Rd) (k : Nat) : (bathsL r k).length = k := by simp [bathsL]
/-- The mark behind a reading that is none. -/
def nextM (n e i : Nat) : Nat := min (i - i % e + e) (n - 1)
/-- What is credited. -/
def credAt (r : Nat → Rd) (n e i : Nat) : Int := if mkB n e i then (r i).b else min (r (i - i % e)).b (r (nextM n e i)).b
def credL (r : Nat → Rd) (n e k : Nat) : List Int := (List.range k).map (credAt r n e)
/-- Credit done for the first k of n readings: the others have their baths. -/
def midC (r : Nat → Rd) (n e k : Nat) : List Int := (List.range n).map fun i => if i < k then credAt r n e i else (r i).b
/-- Records that are equal. -/
def eqB (a b : Rd) : Bool := decide (a.s = b.s) && decide (a.t = b.t) && decide (a.c = b.c) && decide (a.b = b.b)
def sameR (n m : Nat) (r q : Nat → Rd) : Bool := decide (n = m) && allB n fun i => eqB (r i) (q i)
/-- The first reading whose chart is too high. -/
def highB (r : Nat → Rd) (i : Nat) : Bool := decide ((r i).t < (r i).c)
def highN (n : Nat) (r : Nat → Rd) : Int := match (List.range n).find? (highB r) with | some i => (i : Int) | none => -1
theorem highN_none {n : Nat} {r : Nat → Rd} (h : ∀ j, j < n → highB r j = false) : highN n r = -1 := by
  unfold highN
  rw [List.find?_eq_none.2 (fun j hj => by rw [h j (List.mem_range.1 hj)]; simp)]
theorem highN_some {n k : Nat} {r : Nat → Rd} (hk : k < n) (h : ∀ j, j < k → highB r j = false) (hb : highB r k = true) : highN n r = k := by
  unfold highN
  have : (List.range n).find? (highB r) = some k := by
    rw [List.find?_eq_some_iff_append]
    refine ⟨hb, List.range k, List.map (k + 1 + ·) (List.range (n - (k + 1))), ?_, fun a ha => by rw [h a (List.mem_range.1 ha)]; rfl⟩
    have h1 := List.range_add (n := k + 1) (m := n - (k + 1))
    rw [show k + 1 + (n - (k + 1)) = n by omega] at h1
    rw [h1, List.range_succ, List.append_assoc]
    rfl
  rw [this]
end Go.Proofs.YtihbjimnjhfpeaaGreat.Rt

/- Rows of structs that are read: records, programs, faults; and how those that come in are opened. -/
namespace Go.Proofs.YtihbjimnjhfpeaaGreat.Rt
open Go.ChangeShapes Go.WideShapes Go.ChangeAt Go.RowKit Go.Joins Go.Deep

/-- A slice of readings that is read: its readings at its cells. -/
def RdAt (w : World) (b i : Nat) (x : Rd) : Prop := w.cell? ⟨b, i, none⟩ = some (.int .i64 x.s) ∧ w.cell? ⟨b, i + 1, none⟩ = some (.int .i64 x.t) ∧ w.cell? ⟨b, i + 2, none⟩ = some (.int .i64 x.c) ∧ w.cell? ⟨b, i + 3, none⟩ = some (.int .i64 x.b)
def RowR (w : World) (v : Value) (n : Nat) (r : Nat → Rd) : Prop := ∃ a b o cap, v = .slice a n cap ∧ n ≤ cap ∧ cap ≤ maxLen ∧ (n = 0 ∨ a = some ⟨b, o, none⟩) ∧ ∀ k, k < n → RdAt w b (o + k * 4) (r k)
theorem RdAt.keep {W w2 : World} {b i : Nat} {x : Rd} (h : RdAt W b i x) (hb : Below W.heap.size W w2) : RdAt w2 b i x := ⟨keep_cell hb h.1, keep_cell hb h.2.1, keep_cell hb h.2.2.1, keep_cell hb h.2.2.2⟩
theorem RowR.keep {W w2 : World} {v : Value} {n : Nat} {r : Nat → Rd} (h : RowR W v n r) (hb : Below W.heap.size W w2) : RowR w2 v n r := by
  obtain ⟨a, b, o, cap, hv, h1, h2, h3, h4⟩ := h
  exact ⟨a, b, o, cap, hv, h1, h2, h3, fun k hk => (h4 k hk).keep hb⟩
theorem RowR.shape {w : World} {v : Value} {n : Nat} {r : Nat → Rd} (h : RowR w v n r) : ∃ a cap, v = .slice a n cap := by
  obtain ⟨a, b, o, cap, hv, _⟩ := h
  exact ⟨a, cap, hv⟩
theorem RowR.most {w : World} {v : Value} {n : Nat} {r : Nat → Rd} (h : RowR w v n r) : n ≤ maxLen := by
  obtain ⟨a, b, o, cap, hv, h1, h2, _⟩ := h
  omega
/-- A slice of triples (steps, faults, deviations). -/
def TrAt (w : World) (b i : Nat) (x y z : Int) : Prop := w.cell? ⟨b, i, none⟩ = some (.int .i64 x) ∧ w.cell? ⟨b, i + 1, none⟩ = some (.int .i64 y) ∧ w.cell? ⟨b, i + 2, none⟩ = some (.int .i64 z)
def RowT (w : World) (v : Value) (n : Nat) (q : Nat → Tri) : Prop := ∃ a b o cap, v = .slice a n cap ∧ n ≤ cap ∧ cap ≤ maxLen ∧ (n = 0 ∨ a = some ⟨b, o, none⟩) ∧ ∀ k, k < n → TrAt w b (o + k * 3) (q k).x (q k).y (q k).z
def RowP (w : World) (v : Value) (n : Nat) (p : Nat → St) : Prop := RowT w v n fun i => ⟨(p i).k, (p i).s, (p i).n⟩
theorem TrAt.keep {W w2 : World} {b i : Nat} {x y z : Int} (h : TrAt W b i x y z) (hb : Below W.heap.size W w2) : TrAt w2 b i x y z := ⟨keep_cell hb h.1, keep_cell hb h.2.1, keep_cell hb h.2.2⟩
theorem RowT.keep {W w2 : World} {v : Value} {n : Nat} {q : Nat → Tri} (h : RowT W v n q) (hb : Below W.heap.size W w2) : RowT w2 v n q := by
  obtain ⟨a, b, o, cap, hv, h1, h2, h3, h4⟩ := h
  exact ⟨a, b, o, cap, hv, h1, h2, h3, fun k hk => (h4 k hk).keep hb⟩
theorem RowT.shape {w : World} {v : Value} {n : Nat} {q : Nat → Tri} (h : RowT w v n q) : ∃ a cap, v = .slice a n cap := by
  obtain ⟨a, b, o, cap, hv, _⟩ := h
  exact ⟨a, cap, hv⟩
theorem RowT.most {w : World} {v : Value} {n : Nat} {q : Nat → Tri} (h : RowT w v n q) : n ≤ maxLen := by
  obtain ⟨a, b, o, cap, hv, h1, h2, _⟩ := h
  omega

theorem own : ownKnob Tryz.prog.godebug = none := by kernel_rfl
theorem laidOut : laidOutB Tryz.prog = true := by kernel_rfl
theorem cellsRd : Tryz.prog.cellsOf 56 = 4 := by kernel_rfl
theorem cellsSt : Tryz.prog.cellsOf 105 = 3 := by kernel_rfl
section
variable {H : Type} {enc : TypeId × Value → H} {P : Program} {w : World} {base : Nat} {spare : Nat → Bool} {held : Bool}
theorem open_slice_fields {t e : TypeId} {fs : Array Field} {fuel : Nat} {cs : List Value} {x : DataW H × List MemPlace} (ht : P.underlying t = some (.slice e)) (he : P.underlying e = some (.struct fs))
    (hone : oneCellFields P fs = true) (hC : P.cellsOf e = fs.size) (h : DataW.trod enc P w base spare held fuel t cs = some x) :
    cs = [.slice none 0 0] ∨
    ∃ (a : Addr) (len cap m : Nat), cs = [.slice (some a) len cap] ∧ len ≤ cap ∧ cap ≤ maxLen ∧ len ≤ m ∧
      ∀ i, i < m → ∀ (j : Nat) (f : Field), fs[j]? = some f → ∃ (v : Value) (y : DataW H × List MemPlace) (n : Nat), w.cell? (a.add (i * fs.size + j)) = some v ∧ DataW.trod enc P w base spare held n f.type [v] = some y := by
  rcases open_slice ht h with h0 | ⟨a, len, cap, m, n, D, Pl, hcs, hb, hl, hm, hmm, hx, hi⟩
  · exact .inl h0.1
  · refine .inr ⟨a, len, cap, m, hcs, hl, hm, by rw [hmm]; split <;> omega, fun i him => ?_⟩
    obtain ⟨cs', hc, ht'⟩ := hi i him
    rw [hC] at hc
    obtain ⟨ys, n', hn', hy, hlen, hyl, hf⟩ := DataW.trod_struct he ht'
    obtain ⟨_, hcl, hat⟩ := World.cells?_some hc
    intro j f hj
    obtain ⟨ho, hk⟩ := hone_of hone j f hj
    have hjl : j < fs.size := (Array.getElem?_eq_some_iff.1 hj).1
    have hcell := hat j hjl
    have hv : cs'[j]? = some (cs'[j]'(by omega)) := List.getElem?_eq_getElem (by omega)
    have h1 := hf j f hj
    rw [ho, hk] at h1
    have hone' : (cs'.drop j).take 1 = [cs'[j]'(by omega)] := by
      rw [List.drop_eq_getElem_cons (by omega)]
      rfl
    rw [hone'] at h1
    have hys : ys[j]? = some (ys[j]'(by omega)) := List.getElem?_eq_getElem (by omega)
    refine ⟨_, _, n', ?_, h1.trans hys⟩
    rw [← Go.Deep.add_add, hcell, hv]
theorem trod_i {n : Nat} {v : Value} {y : DataW H × List MemPlace} (h : DataW.trod enc Tryz.prog w base spare held n 3 [v] = some y) : ∃ z : Int, v = .int .i64 z := by
  obtain ⟨z, e, _⟩ := DataW.trod_int Tryz.underlying3 h
  simp at e
  exact ⟨z, e⟩
theorem plain_of {w : World} {a : Addr} {v : Value} (h : w.cell? (a.add 0) = some v) : ∃ b o, a = ⟨b, o, none⟩ := by
  obtain ⟨b, off, spot⟩ := a
  have hspot : spot = none := by simpa [Addr.add] using World.cell?_spot h
  subst hspot
  exact ⟨b, off, rfl⟩
set_option maxRecDepth 100000 in
theorem rowR_of {v : Value} {n : Nat} {y : DataW H × List MemPlace} (h : DataW.trod enc Tryz.prog w base spare held n 40 [v] = some y) : ∃ (m : Nat) (r : Nat → Rd), RowR w v m r := by
  rcases open_slice_fields Tryz.underlying40 Tryz.underlying56 (by kernel_rfl) cellsRd h with h0 | ⟨a, len, cap, m, hcs, hl, hm, hlm, hc⟩
  · simp at h0
    subst h0
    exact ⟨0, fun _ => ⟨0, 0, 0, 0⟩, none, 0, 0, 0, rfl, Nat.le_refl _, by simp, .inl rfl, fun k hk => absurd hk (Nat.not_lt_zero k)⟩
  · simp at hcs
    subst hcs
    rcases Nat.eq_zero_or_pos len with rfl | hp
    · exact ⟨0, fun _ => ⟨0, 0, 0, 0⟩, some a, 0, 0, cap, rfl, hl, hm, .inl rfl, fun k hk => absurd hk (Nat.not_lt_zero k)⟩
    · obtain ⟨v0, _, _, hc0, _⟩ := hc 0 (by omega) 0 _ rfl
      obtain ⟨b, o, rfl⟩ := plain_of hc0
      have hx : ∀ k, ∃ x : Rd, k < len → RdAt w b (o + k * 4) x := fun k => by
        by_cases hk : k < len
        · obtain ⟨u0, _, _, g0, t0⟩ := hc k (by omega) 0 _ rfl
          obtain ⟨u1, _, _, g1, t1⟩ := hc k (by omega) 1 _ rfl
          obtain ⟨u2, _, _, g2, t2⟩ := hc k (by omega) 2 _ rfl
          obtain ⟨u3, _, _, g3, t3⟩ := hc k (by omega) 3 _ rfl
          obtain ⟨z0, rfl⟩ := trod_i t0
          obtain ⟨z1, rfl⟩ := trod_i t1
          obtain ⟨z2, rfl⟩ := trod_i t2
          obtain ⟨z3, rfl⟩ := trod_i t3
          rw [Go.WideShapes.add_plain] at g0 g1 g2 g3
          exact ⟨⟨z0, z1, z2, z3⟩, fun _ => ⟨g0, g1, g2, g3⟩⟩
        · exact ⟨⟨0, 0, 0, 0⟩, fun h => absurd h hk⟩
      obtain ⟨r, hr⟩ := Classical.axiomOfChoice hx
      exact ⟨len, r, some ⟨b, o, none⟩, b, o, cap, rfl, hl, hm, .inr rfl, hr⟩
set_option maxRecDepth 100000 in
theorem rowP_of {v : Value} {n : Nat} {y : DataW H × List MemPlace} (h : DataW.trod enc Tryz.prog w base spare held n 39 [v] = some y) : ∃ (m : Nat) (p : Nat → St), RowP w v m p := by
  rcases open_slice_fields Tryz.underlying39 Tryz.underlying105 (by kernel_rfl) cellsSt h with h0 | ⟨a, len, cap, m, hcs, hl, hm, hlm, hc⟩
  · simp at h0
    subst h0
    exact ⟨0, fun _ => ⟨0, 0, 0⟩, none, 0, 0, 0, rfl, Nat.le_refl _, by simp, .inl rfl, fun k hk => absurd hk (Nat.not_lt_zero k)⟩
  · simp at hcs
    subst hcs
    rcases Nat.eq_zero_or_pos len with rfl | hp
    · exact ⟨0, fun _ => ⟨0, 0, 0⟩, some a, 0, 0, cap, rfl, hl, hm, .inl rfl, fun k hk => absurd hk (Nat.not_lt_zero k)⟩
    · obtain ⟨v0, _, _, hc0, _⟩ := hc 0 (by omega) 0 _ rfl
      obtain ⟨b, o, rfl⟩ := plain_of hc0
      have hx : ∀ k, ∃ x : St, k < len → TrAt w b (o + k * 3) x.k x.s x.n := fun k => by
        by_cases hk : k < len
        · obtain ⟨u0, _, _, g0, t0⟩ := hc k (by omega) 0 _ rfl
          obtain ⟨u1, _, _, g1, t1⟩ := hc k (by omega) 1 _ rfl
          obtain ⟨u2, _, _, g2, t2⟩ := hc k (by omega) 2 _ rfl
          obtain ⟨z0, rfl⟩ := trod_i t0
          obtain ⟨z1, rfl⟩ := trod_i t1
          obtain ⟨z2, rfl⟩ := trod_i t2
          rw [Go.WideShapes.add_plain] at g0 g1 g2
          exact ⟨⟨z0, z1, z2⟩, fun _ => ⟨g0, g1, g2⟩⟩
        · exact ⟨⟨0, 0, 0⟩, fun h => absurd h hk⟩
      obtain ⟨p, hp'⟩ := Classical.axiomOfChoice hx
      exact ⟨len, p, some ⟨b, o, none⟩, b, o, cap, rfl, hl, hm, .inr rfl, hp'⟩
end
end Go.Proofs.YtihbjimnjhfpeaaGreat.Rt

/- Walks of within, of marks, and of Marks and Baths of both: contracts. -/
namespace Go.Proofs.YtihbjimnjhfpeaaGreat.Rt
open Go.RowKit

set_option maxHeartbeats 400000 in
theorem vwithin_any (a b c : Int) (w : World) :
    Calls Tryz.prog 61 #[.int .i64 a, .int .i64 b, .int .i64 c] w fun e w' => e = .returned (.bool (inB a b c)) ∧ w = w' := by
  by_cases h : b ≤ a
  · have hd : decide (b ≤ a) = true := by simpa using h
    go_enter Tryz.func61, Tryz.ntmps61
    go_wp2
    go_ret
    exact ⟨ret_bool (by unfold inB; rw [hd]; rfl), rfl⟩
  · have hd : decide (b ≤ a) = false := by simpa using h
    go_enter Tryz.func61, Tryz.ntmps61
    go_wp2
    go_ret
    exact ⟨ret_bool (by unfold inB; rw [hd]; rfl), rfl⟩
set_option maxHeartbeats 400000 in
theorem xwithin_any (a b c : Int) (w : World) :
    Calls Tryz.prog 91 #[.int .i64 a, .int .i64 b, .int .i64 c] w fun e w' => e = .returned (.bool (inB a b c)) ∧ w = w' := by
  by_cases h : b ≤ a
  · have hd : decide (b ≤ a) = true := by simpa using h
    go_enter Tryz.func91, Tryz.ntmps91
    go_wp2
    go_ret
    exact ⟨ret_bool (by unfold inB; rw [hd]; rfl), rfl⟩
  · have hd : decide (b ≤ a) = false := by simpa using h
    go_enter Tryz.func91, Tryz.ntmps91
    go_wp2
    go_ret
    exact ⟨ret_bool (by unfold inB; rw [hd]; rfl), rfl⟩

/-- The error of marks. -/
def markE (n : Nat) (e : Int) : Int := if 2000 < n then 4 else if inB e 1 2000 then 0 else 7

/-- A row of ints of the call's own. -/
def OwnL (w : World) (base : Nat) (v : Value) (l : List Int) : Prop := w.ownsRow base 3 1 v l.length (ivs l)
theorem ownL_app {w : World} {base : Nat} {v : Value} {l : List Int} {x : Int} (h : w.ownsRow base 3 1 v (l.length + 1) (ivs l ++ [.int .i64 x])) : OwnL w base v (l ++ [x]) := by
  unfold OwnL
  rw [List.length_append, show ivs (l ++ [x]) = ivs l ++ [.int .i64 x] by simp [ivs]]
  exact h
theorem infoI : (Tryz.prog.info? 3).map (fun i => (i.zero, i.size, i.bytes)) = some (some (.int .i64 0), 1, 8) := by kernel_rfl
theorem below_app {W wr w1 : World} {base : Nat} {v : Value} {l : List Int} {o o' : Obj} (hW : Below W.heap.size W wr) (h : OwnL wr base v l) (hb : W.heap.size ≤ base) (hg : ((wr.alloc o).alloc o').grownBy w1 v.ownBlock) : Below W.heap.size W w1 :=
  ((hW.alloc hW.size _).alloc (by have := hW.size; simp; omega) _).grown hg (by have := hW.size; simp; omega) (fun k hk => by have := (World.ownsRow.lt h k hk).1; omega)
theorem below_app1 {W wr w1 : World} {base : Nat} {v : Value} {l : List Int} {o : Obj} (hW : Below W.heap.size W wr) (h : OwnL wr base v l) (hb : W.heap.size ≤ base) (hg : (wr.alloc o).grownBy w1 v.ownBlock) : Below W.heap.size W w1 :=
  (hW.alloc hW.size _).grown hg (by have := hW.size; simp; omega) (fun k hk => by have := (World.ownsRow.lt h k hk).1; omega)
theorem OwnL.rowI {w : World} {base : Nat} {v : Value} {l : List Int} (h : OwnL w base v l) (hl : l.length ≤ 1000000) : RowI w v l := own_rowI h hl
/-- A list of ints and an error come back. -/
def LstP (l : List Int) (n : Int) (w : World) (e : Ending) (w' : World) : Prop := ∃ v, e = .returned (.tuple #[v, .int .i64 n]) ∧ RowI w' v l ∧ Below w.heap.size w w'
theorem cell_one_new {w : World} {u : Value} {T : TypeId} {m : Nat} (hm : w.heap.size = m) : ∀ j x, [u][j]? = some x → (w.alloc (.cells #[u] T)).cell? ((⟨m, 0, none⟩ : Addr).add j) = some x := by
  subst hm
  intro j x h
  cases j with
  | zero => simp at h; subst h; simp [Addr.add]
  | succ j => simp at h
theorem one_cell1 {x : Int} : ∀ u ∈ [Value.int .i64 x], u.oneCell' = true := by intro u hu; simp at hu; subst hu; rfl

end Go.Proofs.YtihbjimnjhfpeaaGreat.Rt
