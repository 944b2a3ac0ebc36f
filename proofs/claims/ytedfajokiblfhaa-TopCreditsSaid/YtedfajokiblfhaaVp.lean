/- Plain facts of programs and records: what the laws of layer 3 speak of. -/
import Derived.Test.YtedfajokiblfhaaA1
namespace Go.Proofs.Ytedfajokiblfhaa.Rt
open Go.RowKit

/-- A reading, a step, a deviation. -/
structure Rd where
  s : Int
  t : Int
  c : Int
  b : Int
structure St where
  k : Int
  s : Int
  n : Int
structure Tri where
  x : Int
  y : Int
  z : Int
/-- All numbers below n meet a test. -/
def allB (n : Nat) (p : Nat → Bool) : Bool := (List.range n).all p
theorem allB_iff {n : Nat} {p : Nat → Bool} : allB n p = true ↔ ∀ j, j < n → p j = true := by simp [allB]
theorem allB_end {n : Nat} {p : Nat → Bool} (h : ∀ j, j < n → p j = true) : allB n p = true := allB_iff.2 h
theorem allB_bad {n k : Nat} {p : Nat → Bool} (hk : k < n) (h : p k = false) : allB n p = false := by
  rw [Bool.eq_false_iff]
  intro h0
  rw [allB_iff.1 h0 k hk] at h
  cases h
theorem all_step {p : Nat → Bool} {k : Nat} (h : ∀ j, j < k → p j = true) (hp : p k = true) : ∀ j, j < k + 1 → p j = true := by
  intro j hj
  rcases Nat.lt_or_ge j k with h1 | h1
  · exact h j h1
  · obtain rfl : j = k := by omega
    exact hp
theorem all_none {p : Nat → Bool} : ∀ j, j < 0 → p j = true := fun j h => absurd h (Nat.not_lt_zero j)

/-- Two numbers around one. -/
def inB (a b c : Int) : Bool := decide (b ≤ a) && decide (a ≤ c)
theorem inB_iff {a b c : Int} : inB a b c = true ↔ b ≤ a ∧ a ≤ c := by simp [inB]
theorem inB_not {a b c : Int} : inB a b c = false ↔ ¬ (b ≤ a ∧ a ≤ c) := by rw [← inB_iff]; simp

/-- A step that is valid. -/
def loK (k : Int) : Int := if k = 1 ∨ k = 2 then 0 else 1
def hiK (k : Int) : Int := if k = 2 then 0 else 2000
def stepB (x : St) : Bool := inB x.k 1 4 && inB x.s 0 200000 && inB x.n (loK x.k) (hiK x.k)
/-- A program that is valid. -/
def progB (m : Nat) (p : Nat → St) : Bool := inB m 1 16 && allB m fun i => stepB (p i)
/-- A reading within bounds. -/
def readB (x : Rd) : Bool := inB x.t (-1000000) 1000000 && inB x.c (-1000000) 1000000 && inB x.b (-1000000) 1000000
/-- What the step of a reading may be. -/
def loS (r : Nat → Rd) : Nat → Int
  | 0 => 0
  | i + 1 => (r i).s
def hiS (m : Nat) (r : Nat → Rd) : Nat → Int
  | 0 => 0
  | i + 1 => min ((r i).s + 1) ((m : Int) - 1)
def recAt (m : Nat) (r : Nat → Rd) (i : Nat) : Bool := inB (r i).s (loS r i) (hiS m r i) && readB (r i)
/-- A record that is valid for a program. -/
def recB (m : Nat) (p : Nat → St) (n : Nat) (r : Nat → Rd) : Bool := progB m p && decide (n ≤ 2000) && allB n (recAt m r)
theorem recB_iff {m : Nat} {p : Nat → St} {n : Nat} {r : Nat → Rd} : recB m p n r = true ↔ progB m p = true ∧ n ≤ 2000 ∧ ∀ j, j < n → recAt m r j = true := by
  simp only [recB, Bool.and_eq_true, allB_iff, decide_eq_true_iff, and_assoc]
theorem progB_iff {m : Nat} {p : Nat → St} : progB m p = true ↔ (1 ≤ (m : Int) ∧ (m : Int) ≤ 16) ∧ ∀ j, j < m → stepB (p j) = true := by
  simp only [progB, Bool.and_eq_true, allB_iff, inB_iff]

/-- A mark. -/
def mkB (n e i : Nat) : Bool := decide (i % e = 0) || decide (i + 1 = n)
/-- The baths of the marks among the first k readings. -/
def marksL (r : Nat → Rd) (n e k : Nat) : List Int := ((List.range k).filter (mkB n e)).map fun i => (r i).b
theorem marksL_zero (r : Nat → Rd) (n e : Nat) : marksL r n e 0 = [] := rfl
theorem marksL_yes {r : Nat → Rd} {n e k : Nat} (h : mkB n e k = true) : marksL r n e (k + 1) = marksL r n e k ++ [(r k).b] := by simp [marksL, List.range_succ, List.filter_append, h]
theorem marksL_no {r : Nat → Rd} {n e k : Nat} (h : mkB n e k = false) : marksL r n e (k + 1) = marksL r n e k := by simp [marksL, List.range_succ, List.filter_append, h]
theorem marksL_len (r : Nat → Rd) (n e k : Nat) : (marksL r n e k).length ≤ k := by
  have h := List.length_filter_le (mkB n e) (List.range k)
  simpa [marksL] using h
/-- The baths of the first k readings. -/
def bathsL (r : Nat → Rd) (k : Nat) : List Int := (List.range k).map fun i => (r i).b
theorem bathsL_succ (r : Nat → Rd) (k : Nat) : bathsL r (k + 1) = bathsL r k ++ [(r k).b] := by simp [bathsL, List.range_succ]
theorem bathsL_len (r : Nat → Rd) (k : Nat) : (bathsL r k).length = k := by simp [bathsL]
theorem bathsL_at {r : Nat → Rd} {n k : Nat} (h : k < n) : (bathsL r n)[k]? = some (r k).b := by simp [bathsL, h]
/-- The mark behind a reading that is none. -/
def nextM (n e i : Nat) : Nat := min (i - i % e + e) (n - 1)
/-- What is credited. -/
def credAt (r : Nat → Rd) (n e i : Nat) : Int := if mkB n e i then (r i).b else min (r (i - i % e)).b (r (nextM n e i)).b
def credL (r : Nat → Rd) (n e k : Nat) : List Int := (List.range k).map (credAt r n e)
theorem credL_succ (r : Nat → Rd) (n e k : Nat) : credL r n e (k + 1) = credL r n e k ++ [credAt r n e k] := by simp [credL, List.range_succ]
theorem credL_len (r : Nat → Rd) (n e k : Nat) : (credL r n e k).length = k := by simp [credL]
/-- Credit done for the first k of n readings: the others have their baths. -/
def midC (r : Nat → Rd) (n e k : Nat) : List Int := (List.range n).map fun i => if i < k then credAt r n e i else (r i).b
theorem midC_zero (r : Nat → Rd) (n e : Nat) : midC r n e 0 = bathsL r n := by simp [midC, bathsL]
theorem midC_all (r : Nat → Rd) (n e : Nat) : midC r n e n = credL r n e n := by
  unfold midC credL
  exact List.map_congr_left fun i hi => by rw [if_pos (List.mem_range.1 hi)]
theorem midC_len (r : Nat → Rd) (n e k : Nat) : (midC r n e k).length = n := by simp [midC]
theorem midC_at {r : Nat → Rd} {n e k : Nat} (h : k < n) : (midC r n e k)[k]? = some (r k).b := by simp [midC, h]
theorem midC_set {r : Nat → Rd} {n e k : Nat} {v : Int} (_h : k < n) (hv : v = credAt r n e k) : (midC r n e k).set k v = midC r n e (k + 1) := by
  subst hv
  apply List.ext_getElem?
  intro i
  rw [List.getElem?_set]
  unfold midC
  by_cases hi : k = i
  · subst hi
    simp [_h]
  · rw [if_neg hi]
    by_cases hin : i < n
    · simp only [List.getElem?_map, List.getElem?_range hin, Option.map_some]
      have : i < k ↔ i < k + 1 := by omega
      simp only [this]
    · simp [hin]
theorem midC_skip {r : Nat → Rd} {n e k : Nat} (h : k < n) (hm : mkB n e k = true) : midC r n e k = midC r n e (k + 1) := by
  have h1 := midC_set (r := r) (e := e) h rfl
  rw [← h1]
  apply List.ext_getElem?
  intro i
  rw [List.getElem?_set]
  by_cases hi : k = i
  · subst hi
    simp [midC, h, credAt, hm]
  · rw [if_neg hi]
theorem mkB_false {n e i : Nat} (h : mkB n e i = false) : i % e ≠ 0 ∧ i + 1 ≠ n := by simpa [mkB] using h
theorem mkB_mod {n e i : Nat} (h : i % e = 0) : mkB n e i = true := by simp [mkB, h]
theorem mkB_last {n e i : Nat} (h : i + 1 = n) : mkB n e i = true := by simp [mkB, h]
theorem mkB_none {n e i : Nat} (h : i % e ≠ 0) (g : i + 1 ≠ n) : mkB n e i = false := by simp [mkB, h, g]
/-- Going back from a reading that is no mark one comes to the mark before. -/
theorem back_mod {e i j : Nat} (he : 0 < e) (h1 : i - i % e ≤ j) (h2 : j ≤ i) : j % e = j - (i - i % e) := by
  have hm := Nat.mod_lt i he
  have hd := Nat.div_add_mod i e
  have : i - i % e = e * (i / e) := by omega
  rw [this] at h1 ⊢
  obtain ⟨d, rfl⟩ : ∃ d, j = e * (i / e) + d := ⟨j - e * (i / e), by omega⟩
  rw [Nat.mul_add_mod, Nat.mod_eq_of_lt (by omega)]
  omega
theorem fore_mod {e i j : Nat} (he : 0 < e) (h1 : i ≤ j) (h2 : j < i - i % e + e) : j % e = j - (i - i % e) := by
  have hm := Nat.mod_lt i he
  have hd := Nat.div_add_mod i e
  have : i - i % e = e * (i / e) := by omega
  rw [this] at h2 ⊢
  obtain ⟨d, rfl⟩ : ∃ d, j = e * (i / e) + d := ⟨j - e * (i / e), by omega⟩
  rw [Nat.mul_add_mod, Nat.mod_eq_of_lt (by omega)]
  omega
theorem top_mod {e i : Nat} (he : 0 < e) : (i - i % e + e) % e = 0 := by
  have hd := Nat.div_add_mod i e
  have : i - i % e = e * (i / e) := by have := Nat.mod_lt i he; omega
  rw [this, Nat.mul_add_mod, Nat.mod_self]
theorem base_mod {e i : Nat} (he : 0 < e) : (i - i % e) % e = 0 := by
  have hd := Nat.div_add_mod i e
  have : i - i % e = e * (i / e) := by have := Nat.mod_lt i he; omega
  rw [this, Nat.mul_mod_right]
/-- Back: while one is at no mark, one step more. -/
theorem back_no {n e i j : Nat} (he : 0 < e) (h1 : i - i % e ≤ j) (h2 : j ≤ i) (hi : i + 1 < n ∨ j < i) (hin : i < n) : mkB n e j = decide (j = i - i % e) := by
  have hb := back_mod he h1 h2
  have hle := Nat.mod_le i e
  by_cases h : j = i - i % e
  · rw [decide_eq_true h]; exact mkB_mod (by omega)
  · rw [decide_eq_false h]; exact mkB_none (by omega) (by omega)
theorem fore_no {n e i j : Nat} (he : 0 < e) (hm : mkB n e i = false) (h1 : i ≤ j) (h2 : j ≤ nextM n e i) : mkB n e j = decide (j = nextM n e i) := by
  obtain ⟨hm1, hm2⟩ := mkB_false hm
  have hlt := Nat.mod_lt i he
  have hle := Nat.mod_le i e
  unfold nextM at h2 ⊢
  by_cases h : j = min (i - i % e + e) (n - 1)
  · rw [decide_eq_true h]
    by_cases hc : i - i % e + e ≤ n - 1
    · exact mkB_mod (by rw [h, Nat.min_eq_left hc]; exact top_mod he)
    · exact mkB_last (by omega)
  · rw [decide_eq_false h]
    have hf := fore_mod he h1 (by omega)
    exact mkB_none (by omega) (by omega)

/-- Records that are equal. -/
def eqB (a b : Rd) : Bool := decide (a.s = b.s) && decide (a.t = b.t) && decide (a.c = b.c) && decide (a.b = b.b)
def sameR (n m : Nat) (r q : Nat → Rd) : Bool := decide (n = m) && allB n fun i => eqB (r i) (q i)
theorem sameR_len {n m : Nat} {r q : Nat → Rd} (h : n ≠ m) : sameR n m r q = false := by simp [sameR, h]
theorem sameR_eq {n m : Nat} {r q : Nat → Rd} (h : n = m) : sameR n m r q = allB n fun i => eqB (r i) (q i) := by simp [sameR, h]
theorem eqB_self (a : Rd) : eqB a a = true := by simp [eqB]
theorem sameR_self (n : Nat) (r : Nat → Rd) : sameR n n r r = true := by rw [sameR_eq rfl]; exact allB_end fun j _ => eqB_self _
/-- The first reading whose chart is too high. -/
def highB (r : Nat → Rd) (i : Nat) : Bool := decide ((r i).t < (r i).c)
def highN (n : Nat) (r : Nat → Rd) : Int := match (List.range n).find? (highB r) with | some i => (i : Int) | none => -1
theorem highN_none {n : Nat} {r : Nat → Rd} (h : ∀ j, j < n → highB r j = false) : highN n r = -1 := by
  unfold highN
  rw [List.find?_eq_none.2 (fun j hj => by rw [h j (List.mem_range.1 hj)]; simp)]
theorem highN_some {n k : Nat} {r : Nat → Rd} (hk : k < n) (h : ∀ j, j < k → highB r j = false) (hb : highB r k = true) : highN n r = k := by
  unfold highN
  have : (List.range n).find? (highB r) = some k := by
    rw [List.find?_eq_some_iff_append]
    refine ⟨hb, List.range k, List.map (k + 1 + ·) (List.range (n - (k + 1))), ?_, fun a ha => by rw [h a (List.mem_range.1 ha)]; rfl⟩
    have h1 := List.range_add (n := k + 1) (m := n - (k + 1))
    rw [show k + 1 + (n - (k + 1)) = n by omega] at h1
    rw [h1, List.range_succ, List.append_assoc]
    rfl
  rw [this]
end Go.Proofs.Ytedfajokiblfhaa.Rt
