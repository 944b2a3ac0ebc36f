/- Texts of this seat, one behind the other. -/
import Derived.Test.YtjfakhfkbnnbcaaRows
import Derived.WalkKit
import Derived.WalkSpells
import Derived.WalkLawsBesides
import Derived.BigQuiet
import Derived.Deep.QuietTactic
import Derived.Deep.RegionHeld3
import Derived.StillTailTactics
import Derived.Deep.RegionWith
import Derived.ProofKit
import Derived.OpenShut
import Derived.Laws.OwnMore
/- Small tools of these proofs. -/
namespace Go.Proofs.Ytjfakhfkbnnbcaa
open Go.RowKit

theorem hid {p : Prop} (h : p) : Hid p := h
theorem ret_bool {a b : Bool} (h : a = b) : Ending.returned (.bool a) = .returned (.bool b) := by rw [h]
theorem ret_int {k : IntKind} {a b : Int} (h : a = b) : Ending.returned (.int k a) = .returned (.int k b) := by rw [h]
theorem int_eq {k : IntKind} {a b : Int} (h : a = b) : Value.int k a = .int k b := by rw [h]
theorem bcell {W w1 : World} (hb : Below W.heap.size W w1) : (∀ b o, b < W.heap.size → w1.cell? ⟨b, o, none⟩ = W.cell? ⟨b, o, none⟩) ∧ (∀ b o, b < W.heap.size → w1.frozen? ⟨b, o, none⟩ = W.frozen? ⟨b, o, none⟩) :=
  ⟨fun b o h => hb.cell (p := ⟨b, o, none⟩) h, fun b o h => hb.frozen (p := ⟨b, o, none⟩) h⟩
theorem balloc {w w1 : World} {o : Obj} (hb : Below (w.alloc o).heap.size (w.alloc o) w1) : Below w.heap.size w w1 :=
  ((Below.refl _ _).alloc (Nat.le_refl _) _).trans (hb.mono (by simp))
theorem bdrewN {B : Nat} {w w1 : World} {n : Nat} (h : Below B w w1) : Below B w (w1.drewN n) := ⟨h.os, h.tape, h.output, h.size, h.block⟩
theorem cell_alloc_new (w : World) (cs : Array Value) (T : TypeId) (fz : Nat × Nat) (i : Nat) : (w.alloc (.cells cs T fz)).cell? ⟨w.heap.size, i, none⟩ = cs[i]? := by
  unfold World.cell?
  show (match (w.alloc (.cells cs T fz)).heap[w.heap.size]? with | some (.cells c _ _) => _ | _ => _) = _
  rw [heap_alloc_new]
  rfl
theorem alloc_size (w : World) (o : Obj) : (w.alloc o).heap.size = w.heap.size + 1 := by simp
theorem keep_cell {W w2 : World} {b i : Nat} {v : Value} (hb : Below W.heap.size W w2) (h : W.cell? ⟨b, i, none⟩ = some v) : w2.cell? ⟨b, i, none⟩ = some v :=
  (hb.cell (p := ⟨b, i, none⟩) (World.block_lt_of_cell? W ⟨b, i, none⟩ h)).trans h
/-- A slice of ints that is read, from any place of a row. -/
def RowI (w : World) (v : Value) (l : List Int) : Prop := (∃ a cap, v = .slice a 0 cap ∧ l = []) ∨ ∃ b o cap, v = .slice (some ⟨b, o, none⟩) l.length cap ∧ l.length ≤ maxLen ∧ ∀ k (h : k < l.length), w.cell? ⟨b, o + k, none⟩ = some (.int .i64 l[k])
theorem RowI.keep {W w2 : World} {v : Value} {l : List Int} (h : RowI W v l) (hb : Below W.heap.size W w2) : RowI w2 v l := by
  rcases h with h | ⟨b, o, cap, hv, hm, hc⟩
  · exact .inl h
  · exact .inr ⟨b, o, cap, hv, hm, fun k hk => keep_cell hb (hc k hk)⟩
theorem RowI.shape {w : World} {v : Value} {l : List Int} (h : RowI w v l) : ∃ a cap, v = .slice a l.length cap := by
  rcases h with ⟨_, _, rfl, rfl⟩ | ⟨b, o, cap, rfl, _, _⟩
  · exact ⟨_, _, rfl⟩
  · exact ⟨_, _, rfl⟩
theorem RowI.form {w : World} {v : Value} {l : List Int} (h : RowI w v l) : ∃ a b o cap, v = .slice a l.length cap ∧ (l = [] ∨ a = some ⟨b, o, none⟩) ∧ (∀ j (h : j < l.length), w.cell? ⟨b, o + j, none⟩ = some (.int .i64 l[j])) ∧ (l ≠ [] → b < w.heap.size) := by
  rcases h with ⟨a, cap, rfl, rfl⟩ | ⟨b, o, cap, rfl, hm, hc⟩
  · exact ⟨a, 0, 0, cap, rfl, .inl rfl, fun j h => absurd h (Nat.not_lt_zero _), fun h => absurd rfl h⟩
  · refine ⟨_, b, o, cap, rfl, .inr rfl, hc, fun h => ?_⟩
    have h0 : 0 < l.length := List.length_pos_iff.2 h
    exact World.block_lt_of_cell? w ⟨b, o + 0, none⟩ (hc 0 h0)
theorem bstep {A : Nat} {w w1 w2 : World} (h : Below A w w1) (hs : A ≤ w1.heap.size) (k : Below w1.heap.size w1 w2) : Below A w w2 := h.trans (k.mono hs)
/-- What two boxes behind one another hold. -/
structure Box2 (w w1 : World) (A B : Array Value) : Prop where
  fst : ∀ i, w1.cell? ⟨w.heap.size, i, none⟩ = A[i]?
  snd : ∀ i, w1.cell? ⟨w.heap.size + 1, i, none⟩ = B[i]?
  sz : w.heap.size + 1 < w1.heap.size
  low : Below w.heap.size w w1
theorem box2_start {w : World} {A B : Array Value} {T T' : TypeId} {fz fz' : Nat × Nat} : Box2 w ((w.alloc (.cells A T fz)).alloc (.cells B T' fz')) A B := by
  refine ⟨fun i => ?_, fun i => ?_, by simp, ((Below.refl _ _).alloc (Nat.le_refl _) _).alloc (by simp) _⟩
  · have h := (bcell ((Below.refl _ (w.alloc (.cells A T fz))).alloc (Nat.le_refl _) (.cells B T' fz'))).1 w.heap.size i (by simp)
    rw [h, cell_alloc_new]
  · have h := cell_alloc_new (w.alloc (.cells A T fz)) B T' fz' i
    rwa [alloc_size] at h
theorem Box2.keep {w w1 w2 : World} {A B : Array Value} (h : Box2 w w1 A B) (hb : Below w1.heap.size w1 w2) : Box2 w w2 A B :=
  ⟨fun i => ((bcell hb).1 _ _ (Nat.lt_of_succ_lt h.sz)).trans (h.fst i), fun i => ((bcell hb).1 _ _ h.sz).trans (h.snd i), Nat.lt_of_lt_of_le h.sz hb.size, bstep h.low h.low.size hb⟩
theorem box2_call {w w1 : World} {A B : Array Value} {T T' : TypeId} {fz fz' : Nat × Nat} (hb : Below ((w.alloc (.cells A T fz)).alloc (.cells B T' fz')).heap.size ((w.alloc (.cells A T fz)).alloc (.cells B T' fz')) w1) : Box2 w w1 A B := box2_start.keep hb
theorem Box2.can {w w1 : World} {c0 c1 c2 c3 c4 c5 c6 : Value} {B : Array Value} (h : Box2 w w1 #[c0, c1, c2, c3, c4, c5, c6] B) :
    w1.cell? ⟨w.heap.size, 0, none⟩ = some c0 ∧ w1.cell? ⟨w.heap.size, 1, none⟩ = some c1 ∧ w1.cell? ⟨w.heap.size, 2, none⟩ = some c2 ∧ w1.cell? ⟨w.heap.size, 3, none⟩ = some c3 ∧ w1.cell? ⟨w.heap.size, 4, none⟩ = some c4 ∧ w1.cell? ⟨w.heap.size, 5, none⟩ = some c5 ∧ w1.cell? ⟨w.heap.size, 6, none⟩ = some c6 :=
  ⟨h.fst 0, h.fst 1, h.fst 2, h.fst 3, h.fst 4, h.fst 5, h.fst 6⟩
theorem Box2.body {w w1 : World} {A : Array Value} {d0 d1 : Value} (h : Box2 w w1 A #[d0, d1]) :
    w1.cell? ⟨w.heap.size + 1, 0, none⟩ = some d0 ∧ w1.cell? ⟨w.heap.size + 1, 1, none⟩ = some d1 := ⟨h.snd 0, h.snd 1⟩
/-- What one box holds. -/
structure Box1 (w w1 : World) (A : Array Value) : Prop where
  fst : ∀ i, w1.cell? ⟨w.heap.size, i, none⟩ = A[i]?
  sz : w.heap.size < w1.heap.size
  low : Below w.heap.size w w1
theorem box1_start {w : World} {A : Array Value} {T : TypeId} {fz : Nat × Nat} : Box1 w (w.alloc (.cells A T fz)) A :=
  ⟨fun i => cell_alloc_new w A T fz i, by simp, (Below.refl _ _).alloc (Nat.le_refl _) _⟩
theorem Box1.keep {w w1 w2 : World} {A : Array Value} (h : Box1 w w1 A) (hb : Below w1.heap.size w1 w2) : Box1 w w2 A :=
  ⟨fun i => ((bcell hb).1 _ _ h.sz).trans (h.fst i), Nat.lt_of_lt_of_le h.sz hb.size, bstep h.low h.low.size hb⟩
theorem box1_call {w w1 : World} {A : Array Value} {T : TypeId} {fz : Nat × Nat} (hb : Below (w.alloc (.cells A T fz)).heap.size (w.alloc (.cells A T fz)) w1) : Box1 w w1 A := box1_start.keep hb
theorem Box1.can {w w1 : World} {c0 c1 c2 c3 c4 c5 c6 : Value} (h : Box1 w w1 #[c0, c1, c2, c3, c4, c5, c6]) :
    w1.cell? ⟨w.heap.size, 0, none⟩ = some c0 ∧ w1.cell? ⟨w.heap.size, 1, none⟩ = some c1 ∧ w1.cell? ⟨w.heap.size, 2, none⟩ = some c2 ∧ w1.cell? ⟨w.heap.size, 3, none⟩ = some c3 ∧ w1.cell? ⟨w.heap.size, 4, none⟩ = some c4 ∧ w1.cell? ⟨w.heap.size, 5, none⟩ = some c5 ∧ w1.cell? ⟨w.heap.size, 6, none⟩ = some c6 :=
  ⟨h.fst 0, h.fst 1, h.fst 2, h.fst 3, h.fst 4, h.fst 5, h.fst 6⟩
/-- Nine cells: a can's box and a body's behind it. -/
def Nine (b : Nat) (w w1 : World) (c0 c1 c2 c3 c4 c5 c6 d0 d1 : Value) : Prop :=
  w1.cell? ⟨b, 0, none⟩ = some c0 ∧ w1.cell? ⟨b, 1, none⟩ = some c1 ∧ w1.cell? ⟨b, 2, none⟩ = some c2 ∧ w1.cell? ⟨b, 3, none⟩ = some c3 ∧ w1.cell? ⟨b, 4, none⟩ = some c4 ∧ w1.cell? ⟨b, 5, none⟩ = some c5 ∧ w1.cell? ⟨b, 6, none⟩ = some c6 ∧
    w1.cell? ⟨b + 1, 0, none⟩ = some d0 ∧ w1.cell? ⟨b + 1, 1, none⟩ = some d1 ∧ b + 1 < w1.heap.size ∧ Below w.heap.size w w1
theorem nine_start {w : World} {c0 c1 c2 c3 c4 c5 c6 d0 d1 : Value} {T T' : TypeId} {fz fz' : Nat × Nat} : Nine w.heap.size w ((w.alloc (.cells #[c0, c1, c2, c3, c4, c5, c6] T fz)).alloc (.cells #[d0, d1] T' fz')) c0 c1 c2 c3 c4 c5 c6 d0 d1 := by
  have h := box2_start (w := w) (A := #[c0, c1, c2, c3, c4, c5, c6]) (B := #[d0, d1]) (T := T) (T' := T') (fz := fz) (fz' := fz')
  exact ⟨h.fst 0, h.fst 1, h.fst 2, h.fst 3, h.fst 4, h.fst 5, h.fst 6, h.snd 0, h.snd 1, h.sz, h.low⟩
theorem nine_keep {b : Nat} {w W w2 : World} {c0 c1 c2 c3 c4 c5 c6 d0 d1 : Value} (hb : Below W.heap.size W w2) (h : Nine b w W c0 c1 c2 c3 c4 c5 c6 d0 d1) : Nine b w w2 c0 c1 c2 c3 c4 c5 c6 d0 d1 := by
  obtain ⟨h0, h1, h2, h3, h4, h5, h6, h7, h8, h9, h10⟩ := h
  exact ⟨keep_cell hb h0, keep_cell hb h1, keep_cell hb h2, keep_cell hb h3, keep_cell hb h4, keep_cell hb h5, keep_cell hb h6, keep_cell hb h7, keep_cell hb h8, Nat.lt_of_lt_of_le h9 hb.size, bstep h10 h10.size hb⟩
end Go.Proofs.Ytjfakhfkbnnbcaa

/- Plain facts of programs and records: what the laws of layer 3 speak of. -/
namespace Go.Proofs.Ytjfakhfkbnnbcaa
open Go.RowKit

/-- A reading, a step, a deviation. -/
structure Rd where
  s : Int
  t : Int
  c : Int
  b : Int
structure St where
  k : Int
  s : Int
  n : Int
structure Tri where
  x : Int
  y : Int
  z : Int
/-- All numbers below n meet a test. -/
def allB (n : Nat) (p : Nat → Bool) : Bool := (List.range n).all p
theorem allB_iff {n : Nat} {p : Nat → Bool} : allB n p = true ↔ ∀ j, j < n → p j = true := by simp [allB]
theorem allB_end {n : Nat} {p : Nat → Bool} (h : ∀ j, j < n → p j = true) : allB n p = true := allB_iff.2 h
theorem allB_bad {n k : Nat} {p : Nat → Bool} (hk : k < n) (h : p k = false) : allB n p = false := by
  rw [Bool.eq_false_iff]
  intro h0
  rw [allB_iff.1 h0 k hk] at h
  cases h
theorem all_step {p : Nat → Bool} {k : Nat} (h : ∀ j, j < k → p j = true) (hp : p k = true) : ∀ j, j < k + 1 → p j = true := by
  intro j hj
  rcases Nat.lt_or_ge j k with h1 | h1
  · exact h j h1
  · obtain rfl : j = k := by omega
    exact hp
theorem all_none {p : Nat → Bool} : ∀ j, j < 0 → p j = true := fun j h => absurd h (Nat.not_lt_zero j)

/-- Two numbers around one. -/
def inB (a b c : Int) : Bool := decide (b ≤ a) && decide (a ≤ c)
theorem inB_iff {a b c : Int} : inB a b c = true ↔ b ≤ a ∧ a ≤ c := by simp [inB]
theorem inB_not {a b c : Int} : inB a b c = false ↔ ¬ (b ≤ a ∧ a ≤ c) := by rw [← inB_iff]; simp

/-- A step that is valid. -/
def loK (k : Int) : Int := if k = 1 ∨ k = 2 then 0 else 1
def hiK (k : Int) : Int := if k = 2 then 0 else 2000
def stepB (x : St) : Bool := inB x.k 1 4 && inB x.s 0 200000 && inB x.n (loK x.k) (hiK x.k)
/-- A program that is valid. -/
def progB (m : Nat) (p : Nat → St) : Bool := inB m 1 16 && allB m fun i => stepB (p i)
/-- A reading within bounds. -/
def readB (x : Rd) : Bool := inB x.t (-1000000) 1000000 && inB x.c (-1000000) 1000000 && inB x.b (-1000000) 1000000
/-- What the step of a reading may be. -/
def loS (r : Nat → Rd) : Nat → Int
  | 0 => 0
  | i + 1 => (r i).s
def hiS (m : Nat) (r : Nat → Rd) : Nat → Int
  | 0 => 0
  | i + 1 => min ((r i).s + 1) ((m : Int) - 1)
def recAt (m : Nat) (r : Nat → Rd) (i : Nat) : Bool := inB (r i).s (loS r i) (hiS m r i) && readB (r i)
/-- A record that is valid for a program. -/
def recB (m : Nat) (p : Nat → St) (n : Nat) (r : Nat → Rd) : Bool := progB m p && decide (n ≤ 2000) && allB n (recAt m r)
theorem recB_iff {m : Nat} {p : Nat → St} {n : Nat} {r : Nat → Rd} : recB m p n r = true ↔ progB m p = true ∧ n ≤ 2000 ∧ ∀ j, j < n → recAt m r j = true := by
  simp only [recB, Bool.and_eq_true, allB_iff, decide_eq_true_iff, and_assoc]
theorem progB_iff {m : Nat} {p : Nat → St} : progB m p = true ↔ (1 ≤ (m : Int) ∧ (m : Int) ≤ 16) ∧ ∀ j, j < m → stepB (p j) = true := by
  simp only [progB, Bool.and_eq_true, allB_iff, inB_iff]

/-- A mark. -/
def mkB (n e i : Nat) : Bool := decide (i % e = 0) || decide (i + 1 = n)
/-- The baths of the marks among the first k readings. -/
def marksL (r : Nat → Rd) (n e k : Nat) : List Int := ((List.range k).filter (mkB n e)).map fun i => (r i).b
theorem marksL_zero (r : Nat → Rd) (n e : Nat) : marksL r n e 0 = [] := rfl
theorem marksL_yes {r : Nat → Rd} {n e k : Nat} (h : mkB n e k = true) : marksL r n e (k + 1) = marksL r n e k ++ [(r k).b] := by simp [marksL, List.range_succ, List.filter_append, h]
theorem marksL_no {r : Nat → Rd} {n e k : Nat} (h : mkB n e k = false) : marksL r n e (k + 1) = marksL r n e k := by simp [marksL, List.range_succ, List.filter_append, h]
theorem marksL_len (r : Nat → Rd) (n e k : Nat) : (marksL r n e k).length ≤ k := by
  have h := List.length_filter_le (mkB n e) (List.range k)
  simpa [marksL] using h
/-- The baths of the first k readings. -/
def bathsL (r : Nat → Rd) (k : Nat) : List Int := (List.range k).map fun i => (r i).b
theorem bathsL_succ (r : Nat → Rd) (k : Nat) : bathsL r (k + 1) = bathsL r k ++ [(r k).b] := by simp [bathsL, List.range_succ]
theorem bathsL_len (r : Nat → Rd) (k : Nat) : (bathsL r k).length = k := by simp [bathsL]
theorem bathsL_at {r : Nat → Rd} {n k : Nat} (h : k < n) : (bathsL r n)[k]? = some (r k).b := by simp [bathsL, h]
/-- The mark behind a reading that is none. -/
def nextM (n e i : Nat) : Nat := min (i - i % e + e) (n - 1)
/-- What is credited. -/
def credAt (r : Nat → Rd) (n e i : Nat) : Int := if mkB n e i then (r i).b else min (r (i - i % e)).b (r (nextM n e i)).b
def credL (r : Nat → Rd) (n e k : Nat) : List Int := (List.range k).map (credAt r n e)
theorem credL_succ (r : Nat → Rd) (n e k : Nat) : credL r n e (k + 1) = credL r n e k ++ [credAt r n e k] := by simp [credL, List.range_succ]
theorem credL_len (r : Nat → Rd) (n e k : Nat) : (credL r n e k).length = k := by simp [credL]
/-- Credit done for the first k of n readings: the others have their baths. -/
def midC (r : Nat → Rd) (n e k : Nat) : List Int := (List.range n).map fun i => if i < k then credAt r n e i else (r i).b
theorem midC_zero (r : Nat → Rd) (n e : Nat) : midC r n e 0 = bathsL r n := by simp [midC, bathsL]
theorem midC_all (r : Nat → Rd) (n e : Nat) : midC r n e n = credL r n e n := by
  unfold midC credL
  exact List.map_congr_left fun i hi => by rw [if_pos (List.mem_range.1 hi)]
theorem midC_len (r : Nat → Rd) (n e k : Nat) : (midC r n e k).length = n := by simp [midC]
theorem midC_at {r : Nat → Rd} {n e k : Nat} (h : k < n) : (midC r n e k)[k]? = some (r k).b := by simp [midC, h]
theorem midC_set {r : Nat → Rd} {n e k : Nat} {v : Int} (_h : k < n) (hv : v = credAt r n e k) : (midC r n e k).set k v = midC r n e (k + 1) := by
  subst hv
  apply List.ext_getElem?
  intro i
  rw [List.getElem?_set]
  unfold midC
  by_cases hi : k = i
  · subst hi
    simp [_h]
  · rw [if_neg hi]
    by_cases hin : i < n
    · simp only [List.getElem?_map, List.getElem?_range hin, Option.map_some]
      have : i < k ↔ i < k + 1 := by omega
      simp only [this]
    · simp [hin]
theorem midC_skip {r : Nat → Rd} {n e k : Nat} (h : k < n) (hm : mkB n e k = true) : midC r n e k = midC r n e (k + 1) := by
  have h1 := midC_set (r := r) (e := e) h rfl
  rw [← h1]
  apply List.ext_getElem?
  intro i
  rw [List.getElem?_set]
  by_cases hi : k = i
  · subst hi
    simp [midC, h, credAt, hm]
  · rw [if_neg hi]
theorem mkB_false {n e i : Nat} (h : mkB n e i = false) : i % e ≠ 0 ∧ i + 1 ≠ n := by simpa [mkB] using h
theorem mkB_mod {n e i : Nat} (h : i % e = 0) : mkB n e i = true := by simp [mkB, h]
theorem mkB_last {n e i : Nat} (h : i + 1 = n) : mkB n e i = true := by simp [mkB, h]
theorem mkB_none {n e i : Nat} (h : i % e ≠ 0) (g : i + 1 ≠ n) : mkB n e i = false := by simp [mkB, h, g]
/-- Going back from a reading that is no mark one comes to the mark before. -/
theorem back_mod {e i j : Nat} (he : 0 < e) (h1 : i - i % e ≤ j) (h2 : j ≤ i) : j % e = j - (i - i % e) := by
  have hm := Nat.mod_lt i he
  have hd := Nat.div_add_mod i e
  have : i - i % e = e * (i / e) := by omega
  rw [this] at h1 ⊢
  obtain ⟨d, rfl⟩ : ∃ d, j = e * (i / e) + d := ⟨j - e * (i / e), by omega⟩
  rw [Nat.mul_add_mod, Nat.mod_eq_of_lt (by omega)]
  omega
theorem fore_mod {e i j : Nat} (he : 0 < e) (h1 : i ≤ j) (h2 : j < i - i % e + e) : j % e = j - (i - i % e) := by
  have hm := Nat.mod_lt i he
  have hd := Nat.div_add_mod i e
  have : i - i % e = e * (i / e) := by omega
  rw [this] at h2 ⊢
  obtain ⟨d, rfl⟩ : ∃ d, j = e * (i / e) + d := ⟨j - e * (i / e), by omega⟩
  rw [Nat.mul_add_mod, Nat.mod_eq_of_lt (by omega)]
  omega
theorem top_mod {e i : Nat} (he : 0 < e) : (i - i % e + e) % e = 0 := by
  have hd := Nat.div_add_mod i e
  have : i - i % e = e * (i / e) := by have := Nat.mod_lt i he; omega
  rw [this, Nat.mul_add_mod, Nat.mod_self]
theorem base_mod {e i : Nat} (he : 0 < e) : (i - i % e) % e = 0 := by
  have hd := Nat.div_add_mod i e
  have : i - i % e = e * (i / e) := by have := Nat.mod_lt i he; omega
  rw [this, Nat.mul_mod_right]
/-- Back: while one is at no mark, one step more. -/
theorem back_no {n e i j : Nat} (he : 0 < e) (h1 : i - i % e ≤ j) (h2 : j ≤ i) (hi : i + 1 < n ∨ j < i) (hin : i < n) : mkB n e j = decide (j = i - i % e) := by
  have hb := back_mod he h1 h2
  have hle := Nat.mod_le i e
  by_cases h : j = i - i % e
  · rw [decide_eq_true h]; exact mkB_mod (by omega)
  · rw [decide_eq_false h]; exact mkB_none (by omega) (by omega)
theorem fore_no {n e i j : Nat} (he : 0 < e) (hm : mkB n e i = false) (h1 : i ≤ j) (h2 : j ≤ nextM n e i) : mkB n e j = decide (j = nextM n e i) := by
  obtain ⟨hm1, hm2⟩ := mkB_false hm
  have hlt := Nat.mod_lt i he
  have hle := Nat.mod_le i e
  unfold nextM at h2 ⊢
  by_cases h : j = min (i - i % e + e) (n - 1)
  · rw [decide_eq_true h]
    by_cases hc : i - i % e + e ≤ n - 1
    · exact mkB_mod (by rw [h, Nat.min_eq_left hc]; exact top_mod he)
    · exact mkB_last (by omega)
  · rw [decide_eq_false h]
    have hf := fore_mod he h1 (by omega)
    exact mkB_none (by omega) (by omega)

/-- Records that are equal. -/
def eqB (a b : Rd) : Bool := decide (a.s = b.s) && decide (a.t = b.t) && decide (a.c = b.c) && decide (a.b = b.b)
def sameR (n m : Nat) (r q : Nat → Rd) : Bool := decide (n = m) && allB n fun i => eqB (r i) (q i)
theorem sameR_len {n m : Nat} {r q : Nat → Rd} (h : n ≠ m) : sameR n m r q = false := by simp [sameR, h]
theorem sameR_eq {n m : Nat} {r q : Nat → Rd} (h : n = m) : sameR n m r q = allB n fun i => eqB (r i) (q i) := by simp [sameR, h]
theorem eqB_self (a : Rd) : eqB a a = true := by simp [eqB]
theorem sameR_self (n : Nat) (r : Nat → Rd) : sameR n n r r = true := by rw [sameR_eq rfl]; exact allB_end fun j _ => eqB_self _
/-- The first reading whose chart is too high. -/
def highB (r : Nat → Rd) (i : Nat) : Bool := decide ((r i).t < (r i).c)
def highN (n : Nat) (r : Nat → Rd) : Int := match (List.range n).find? (highB r) with | some i => (i : Int) | none => -1
theorem highN_none {n : Nat} {r : Nat → Rd} (h : ∀ j, j < n → highB r j = false) : highN n r = -1 := by
  unfold highN
  rw [List.find?_eq_none.2 (fun j hj => by rw [h j (List.mem_range.1 hj)]; simp)]
theorem highN_some {n k : Nat} {r : Nat → Rd} (hk : k < n) (h : ∀ j, j < k → highB r j = false) (hb : highB r k = true) : highN n r = k := by
  unfold highN
  have : (List.range n).find? (highB r) = some k := by
    rw [List.find?_eq_some_iff_append]
    refine ⟨hb, List.range k, List.map (k + 1 + ·) (List.range (n - (k + 1))), ?_, fun a ha => by rw [h a (List.mem_range.1 ha)]; rfl⟩
    have h1 := List.range_add (n := k + 1) (m := n - (k + 1))
    rw [show k + 1 + (n - (k + 1)) = n by omega] at h1
    rw [h1, List.range_succ, List.append_assoc]
    rfl
  rw [this]
end Go.Proofs.Ytjfakhfkbnnbcaa

/- Plain facts of sheets: validity, overlaps, per cents; division rounded down. -/
namespace Go.Proofs.Ytjfakhfkbnnbcaa
open Go.RowKit

/-- All numbers of a list lie between two. -/
def allW (lo hi : Int) (l : List Int) : Bool := l.all fun n => inB n lo hi
/-- A sheet. -/
structure Sh where
  tk : Int
  hd : Int
  bh : Int
  ch : Int
  ht : Int
  ep : Int
  bp : Int
  wr : Int
  th : Int
  cs : Int
def shB (x : Sh) : Bool := inB x.tk 0 100000000 && inB x.hd 1 12 && inB x.wr 0 100 && allW 1 1000 [x.ep, x.bp] && allW 0 20000 [x.bh, x.ch, x.ht, x.th, x.cs]
structure ShOk (x : Sh) : Prop where
  tk : 0 ≤ x.tk ∧ x.tk ≤ 100000000
  hd : 1 ≤ x.hd ∧ x.hd ≤ 12
  wr : 0 ≤ x.wr ∧ x.wr ≤ 100
  ep : 1 ≤ x.ep ∧ x.ep ≤ 1000
  bp : 1 ≤ x.bp ∧ x.bp ≤ 1000
  bh : 0 ≤ x.bh ∧ x.bh ≤ 20000
  ch : 0 ≤ x.ch ∧ x.ch ≤ 20000
  ht : 0 ≤ x.ht ∧ x.ht ≤ 20000
  th : 0 ≤ x.th ∧ x.th ≤ 20000
  cs : 0 ≤ x.cs ∧ x.cs ≤ 20000
theorem shB_iff {x : Sh} : shB x = true ↔ ShOk x := by
  constructor
  · intro h
    simp only [shB, allW, List.all_cons, List.all_nil, Bool.and_true, Bool.and_eq_true, inB_iff] at h
    obtain ⟨⟨⟨⟨h1, h2⟩, h3⟩, h4, h5⟩, h6, h7, h8, h9, h10⟩ := h
    exact ⟨h1, h2, h3, h4, h5, h6, h7, h8, h9, h10⟩
  · intro h
    simp only [shB, allW, List.all_cons, List.all_nil, Bool.and_true, Bool.and_eq_true, inB_iff]
    exact ⟨⟨⟨⟨h.tk, h.hd⟩, h.wr⟩, h.ep, h.bp⟩, h.bh, h.ch, h.ht, h.th, h.cs⟩
/-- Ten times the overlap, ten times the room. -/
def ovT (x : Sh) : Int := 10 * (x.bh + x.ch - x.ht) + 11 * x.ep
def roomT (x : Sh) : Int := 10 * x.ht - 11 * (2 * x.ep + x.bp)
def pctT (x : Sh) : Int := if roomT x ≤ 0 then 0 else 100 * ovT x / roomT x
theorem fl_neg {n b : Int} (hn : n < 0) (hb : 0 < b) : n ≤ n.tdiv b ∧ n.tdiv b ≤ 0 ∧ (n.tmod b < 0 → n.tdiv b - 1 = n / b) ∧ (¬ n.tmod b < 0 → n.tdiv b = n / b) := by
  have h1 := Int.tmod_add_mul_tdiv n b
  have h2 : -b < n.tmod b := by
    have := Int.tmod_lt_of_pos (-n) hb
    rw [Int.neg_tmod] at this
    omega
  have h3 : n.tmod b ≤ 0 := by
    have := Int.tmod_nonneg b (show 0 ≤ -n by omega)
    rw [Int.neg_tmod] at this
    omega
  have h4 : 0 ≤ (-n).tdiv b := Int.tdiv_nonneg (by omega) (by omega)
  have h5 : (-n).tdiv b ≤ -n := Int.tdiv_le_self (b := b) (by omega)
  rw [Int.neg_tdiv] at h4 h5
  refine ⟨by omega, by omega, fun h => ?_, fun h => ?_⟩
  · have := (Int.ediv_emod_unique (a := n) (r := b + n.tmod b) (q := n.tdiv b - 1) hb).2 ⟨by rw [Int.mul_sub]; omega, by omega, by omega⟩
    exact this.1.symm
  · have := (Int.ediv_emod_unique (a := n) (r := n.tmod b) (q := n.tdiv b) hb).2 ⟨h1, by omega, by omega⟩
    exact this.1.symm
theorem pct_mono {x y : Sh} (hr : roomT x = roomT y) (ho : ovT x ≤ ovT y) : pctT x ≤ pctT y := by
  unfold pctT
  rw [hr]
  by_cases h : roomT y ≤ 0
  · rw [if_pos h, if_pos h]; exact Int.le_refl _
  · rw [if_neg h, if_neg h]
    exact Int.ediv_le_ediv (by omega) (by omega)
end Go.Proofs.Ytjfakhfkbnnbcaa

/- Walks of within, allWithin and ValidSheet of both, overlaps, rooms, floor: contracts. -/
namespace Go.Proofs.Ytjfakhfkbnnbcaa
open Go.RowKit

set_option maxHeartbeats 400000 in
theorem kwithin_any (a b c : Int) (w : World) :
    Calls Try.prog 41 #[.int .i64 a, .int .i64 b, .int .i64 c] w fun e w' => e = .returned (.bool (inB a b c)) ∧ w = w' := by
  by_cases h : b ≤ a
  · have hd : decide (b ≤ a) = true := by simpa using h
    go_enter Try.func41, Try.ntmps41
    go_wp2
    go_ret
    exact ⟨ret_bool (by unfold inB; rw [hd]; rfl), rfl⟩
  · have hd : decide (b ≤ a) = false := by simpa using h
    go_enter Try.func41, Try.ntmps41
    go_wp2
    go_ret
    exact ⟨ret_bool (by unfold inB; rw [hd]; rfl), rfl⟩
set_option maxHeartbeats 400000 in
theorem kxwithin_any (a b c : Int) (w : World) :
    Calls Try.prog 42 #[.int .i64 a, .int .i64 b, .int .i64 c] w fun e w' => e = .returned (.bool (inB a b c)) ∧ w = w' := by
  by_cases h : b ≤ a
  · have hd : decide (b ≤ a) = true := by simpa using h
    go_enter Try.func42, Try.ntmps42
    go_wp2
    go_ret
    exact ⟨ret_bool (by unfold inB; rw [hd]; rfl), rfl⟩
  · have hd : decide (b ≤ a) = false := by simpa using h
    go_enter Try.func42, Try.ntmps42
    go_wp2
    go_ret
    exact ⟨ret_bool (by unfold inB; rw [hd]; rfl), rfl⟩
set_option maxHeartbeats 400000 in
theorem khead_any (a : Int) (w : World) :
    Calls Try.prog 29 #[.int .i64 a] w fun e w' => e = .returned (.bool (inB a 1 12)) ∧ w = w' := by
  go_enter Try.func29, Try.ntmps29
  go_wp2_with (go_at_call 41; refine (kwithin_any _ _ _ _).mono ?_; rintro e w' ⟨rfl, rfl⟩)
  go_ret
  exact ⟨rfl, rfl⟩
theorem allW_bad {lo hi : Int} {l : List Int} {k : Nat} (hk : k < l.length) (h : inB l[k] lo hi = false) : allW lo hi l = false := by
  rw [Bool.eq_false_iff]
  intro h0
  have := List.all_eq_true.1 h0 _ (List.getElem_mem hk)
  rw [h] at this
  cases this
theorem allW_end {lo hi : Int} {l : List Int} (h : ∀ j (hj : j < l.length), inB l[j] lo hi = true) : allW lo hi l = true := by
  refine List.all_eq_true.2 fun x hx => ?_
  obtain ⟨j, hj, rfl⟩ := List.getElem_of_mem hx
  exact h j hj
theorem allW_step {lo hi : Int} {l : List Int} {k : Nat} (hk : k < l.length) (h : ∀ j (hj : j < l.length), j < k → inB l[j] lo hi = true) (g : inB l[k] lo hi = true) : ∀ j (hj : j < l.length), j < k + 1 → inB l[j] lo hi = true := by
  intro j hj hj2
  rcases Nat.lt_succ_iff_lt_or_eq.1 hj2 with h1 | h1
  · exact h j hj h1
  · subst h1; exact g
set_option maxHeartbeats 1000000 in
theorem allw_any (lo hi : Int) (v : Value) (l : List Int) (w : World) (hr : RowI w v l) :
    Calls Try.prog 56 #[.int .i64 lo, .int .i64 hi, v] w fun e w' => e = .returned (.bool (allW lo hi l)) ∧ w = w' := by
  have HRR := hid hr
  have hM : l.length ≤ maxLen := by
    rcases hr with ⟨_, _, _, rfl⟩ | ⟨_, _, _, _, h, _⟩
    · exact Nat.zero_le _
    · exact h
  unfold maxLen at hM
  obtain ⟨a, c, rfl⟩ : ∃ a c, v = .slice a l.length c := by
    rcases hr with ⟨a, c, hv, rfl⟩ | ⟨b, o, c, hv, _, hc⟩
    · exact ⟨a, c, hv⟩
    · exact ⟨_, c, hv⟩
  obtain ⟨n, hn⟩ : ∃ n, n = l.length := ⟨_, rfl⟩
  have HN := hid hn
  rw [← hn] at hM ⊢
  clear hr hn
  go_enter Try.func56, Try.ntmps56
  go_wp2
  go_loop [11] (fun t => ∃ k : Nat, k ≤ n ∧ t = .int .i64 (k : Int) ∧ Hid (∀ j (hj : j < l.length), j < k → inB l[j] lo hi = true)) (fun t => n - (intOf t).toNat)
  case atStart => exact ⟨0, Nat.zero_le _, rfl, fun j _ h => absurd h (Nat.not_lt_zero j)⟩
  case round =>
    obtain ⟨k, hk, rfl, hok⟩ := hrel
    by_cases hlt : k < n
    · have hlt' : (k : Int) < n := by omega
      have hkl : k < l.length := by rw [← HN.out]; exact hlt
      obtain ⟨b, o, c', hv, hcell⟩ : ∃ b o c', Value.slice a n c = .slice (some ⟨b, o, none⟩) l.length c' ∧ w.cell? ⟨b, o + k, none⟩ = some (.int .i64 l[k]) := by
        rcases HRR.out with ⟨a', c', _, h0⟩ | ⟨b, o, c', hv, _, hc⟩
        · rw [h0] at hkl; simp at hkl
        · exact ⟨b, o, c', by rw [← hv, HN.out], hc k hkl⟩
      injection hv with hv1 hv2 hv3
      subst hv1 hv3
      have HST := hid (fun h => allW_step hkl hok.out h)
      have HBAD := hid (fun h => allW_bad (lo := lo) (hi := hi) hkl h)
      generalize l[k] = x at hcell HST HBAD
      have HLT := hid hlt
      clear hv2 hkl hlt
      cases hx : inB x lo hi
      · have HE := hid (HBAD.out hx)
        go_wp2_with (go_at_call 41; refine (kwithin_any _ _ _ _).mono ?_; rintro e w' ⟨rfl, rfl⟩)
        go_ret
        exact ⟨ret_bool HE.out.symm, rfl⟩
      · have HE := hid (HST.out hx)
        go_wp2_with (go_at_call 41; refine (kwithin_any _ _ _ _).mono ?_; rintro e w' ⟨rfl, rfl⟩)
        go_roundw
        case rel => exact ⟨k + 1, HLT.out, by go_num, HE⟩
        case measure => have := HLT.out; simp [intOf]; omega
    · obtain rfl : k = n := by omega
      have HE := hid (allW_end (lo := lo) (hi := hi) (l := l) fun j hj => hok.out j hj (by rw [HN.out]; exact hj))
      go_wp2
      go_ret
      exact ⟨ret_bool HE.out.symm, rfl⟩
/-- A box of a sheet. -/
def BoxS (W : World) (b : Nat) (x : Sh) : Prop := W.cell? ⟨b, 0, none⟩ = some (.int .i64 x.tk) ∧ W.cell? ⟨b, 1, none⟩ = some (.int .i64 x.hd) ∧ W.cell? ⟨b, 2, none⟩ = some (.int .i64 x.bh) ∧ W.cell? ⟨b, 3, none⟩ = some (.int .i64 x.ch) ∧ W.cell? ⟨b, 4, none⟩ = some (.int .i64 x.ht) ∧ W.cell? ⟨b, 5, none⟩ = some (.int .i64 x.ep) ∧ W.cell? ⟨b, 6, none⟩ = some (.int .i64 x.bp) ∧ W.cell? ⟨b, 7, none⟩ = some (.int .i64 x.wr) ∧ W.cell? ⟨b, 8, none⟩ = some (.int .i64 x.th) ∧ W.cell? ⟨b, 9, none⟩ = some (.int .i64 x.cs)
theorem BoxS.keep {W w2 : World} {b : Nat} {x : Sh} (h : BoxS W b x) (hb : Below W.heap.size W w2) : BoxS w2 b x := ⟨keep_cell hb h.1, keep_cell hb h.2.1, keep_cell hb h.2.2.1, keep_cell hb h.2.2.2.1, keep_cell hb h.2.2.2.2.1, keep_cell hb h.2.2.2.2.2.1, keep_cell hb h.2.2.2.2.2.2.1, keep_cell hb h.2.2.2.2.2.2.2.1, keep_cell hb h.2.2.2.2.2.2.2.2.1, keep_cell hb h.2.2.2.2.2.2.2.2.2⟩
theorem boxS_new (w : World) (x : Sh) : BoxS (w.alloc (.cells #[.int .i64 x.tk, .int .i64 x.hd, .int .i64 x.bh, .int .i64 x.ch, .int .i64 x.ht, .int .i64 x.ep, .int .i64 x.bp, .int .i64 x.wr, .int .i64 x.th, .int .i64 x.cs] 39)) w.heap.size x := ⟨cell_alloc_new w _ _ _ 0, cell_alloc_new w _ _ _ 1, cell_alloc_new w _ _ _ 2, cell_alloc_new w _ _ _ 3, cell_alloc_new w _ _ _ 4, cell_alloc_new w _ _ _ 5, cell_alloc_new w _ _ _ 6, cell_alloc_new w _ _ _ 7, cell_alloc_new w _ _ _ 8, cell_alloc_new w _ _ _ 9⟩
theorem boxS_below (w : World) (x : Sh) : Below w.heap.size w (w.alloc (.cells #[.int .i64 x.tk, .int .i64 x.hd, .int .i64 x.bh, .int .i64 x.ch, .int .i64 x.ht, .int .i64 x.ep, .int .i64 x.bp, .int .i64 x.wr, .int .i64 x.th, .int .i64 x.cs] 39)) := (Below.refl _ _).alloc (Nat.le_refl _) _
set_option maxHeartbeats 1000000 in
theorem kover_any (x : Sh) (w : World) (h : ShOk x) : Calls Try.prog 55 #[.agg #[.int .i64 x.tk, .int .i64 x.hd, .int .i64 x.bh, .int .i64 x.ch, .int .i64 x.ht, .int .i64 x.ep, .int .i64 x.bp, .int .i64 x.wr, .int .i64 x.th, .int .i64 x.cs]] w fun e w' => e = .returned (.int .i64 (ovT x)) ∧ Below w.heap.size w w' := by
  have HB := hid (boxS_below w x)
  obtain ⟨_, _, _, ⟨e1, e2⟩, _, ⟨h1, h2⟩, ⟨h3, h4⟩, ⟨h5, h6⟩, _, _⟩ := h
  have HE := hid (show ovT x = 10 * (x.bh + x.ch - x.ht) + 11 * x.ep from rfl)
  go_enter Try.func55, Try.ntmps55
  go_wp2
  go_ret
  exact ⟨ret_int HE.out.symm, HB.out⟩
set_option maxHeartbeats 1000000 in
theorem ktenth_any (x : Sh) (w : World) (h : ShOk x) : Calls Try.prog 84 #[.agg #[.int .i64 x.tk, .int .i64 x.hd, .int .i64 x.bh, .int .i64 x.ch, .int .i64 x.ht, .int .i64 x.ep, .int .i64 x.bp, .int .i64 x.wr, .int .i64 x.th, .int .i64 x.cs]] w fun e w' => e = .returned (.int .i64 (ovT x)) ∧ Below w.heap.size w w' := by
  have HB := hid (boxS_below w x)
  obtain ⟨_, _, _, ⟨e1, e2⟩, _, ⟨h1, h2⟩, ⟨h3, h4⟩, ⟨h5, h6⟩, _, _⟩ := h
  have HE := hid (show ovT x = 10 * (x.bh + x.ch - x.ht) + 11 * x.ep from rfl)
  go_enter Try.func84, Try.ntmps84
  go_wp2
  go_ret
  exact ⟨ret_int HE.out.symm, HB.out⟩
set_option maxHeartbeats 1000000 in
theorem kroom_any (x : Sh) (w : World) (h : ShOk x) : Calls Try.prog 74 #[.agg #[.int .i64 x.tk, .int .i64 x.hd, .int .i64 x.bh, .int .i64 x.ch, .int .i64 x.ht, .int .i64 x.ep, .int .i64 x.bp, .int .i64 x.wr, .int .i64 x.th, .int .i64 x.cs]] w fun e w' => e = .returned (.int .i64 (roomT x)) ∧ Below w.heap.size w w' := by
  have HB := hid (boxS_below w x)
  obtain ⟨_, _, _, ⟨e1, e2⟩, ⟨p1, p2⟩, _, _, ⟨h5, h6⟩, _, _⟩ := h
  have HE := hid (show roomT x = 10 * x.ht - 11 * (2 * x.ep + x.bp) from rfl)
  go_enter Try.func74, Try.ntmps74
  go_wp2
  go_ret
  exact ⟨ret_int HE.out.symm, HB.out⟩
set_option maxHeartbeats 1000000 in
theorem kfloor_any (n b : Int) (w : World) (hb : 1 ≤ b) (h1 : -1000000000000000 ≤ n) (h2 : n ≤ 1000000000000000) : Calls Try.prog 54 #[.int .i64 n, .int .i64 b] w fun e w' => e = .returned (.int .i64 (n / b)) ∧ w = w' := by
  by_cases hn : 0 ≤ n
  · have hm : 0 ≤ n % b := Int.emod_nonneg n (by omega)
    have hm' : decide (n % b < 0) = false := by simp; omega
    go_enter Try.func54, Try.ntmps54
    go_wp2
    go_ret
    exact ⟨rfl, rfl⟩
  · obtain ⟨f1, f2, f3, f4⟩ := fl_neg (show n < 0 by omega) (show 0 < b by omega)
    obtain ⟨q, hq⟩ : ∃ q, n.tdiv b = q := ⟨_, rfl⟩
    obtain ⟨r, hr⟩ : ∃ r, n.tmod b = r := ⟨_, rfl⟩
    rw [hq] at f1 f2 f3 f4
    rw [hr] at f3 f4
    have HF3 := hid f3
    have HF4 := hid f4
    clear f3 f4
    by_cases hr0 : r < 0
    · have HE := hid (HF3.out hr0)
      go_enter Try.func54, Try.ntmps54
      go_wp2
      go_ret
      exact ⟨ret_int HE.out, rfl⟩
    · have HE := hid (HF4.out hr0)
      go_enter Try.func54, Try.ntmps54
      go_wp2
      go_ret
      exact ⟨ret_int HE.out, rfl⟩
end Go.Proofs.Ytjfakhfkbnnbcaa
