/- The pairs of checks of a head, and the iterator over them: plain facts. -/
import Derived.Test.YtjfakhfkbnnbcaaZk
namespace Go.Proofs.Ytjfakhfkbnnbcaa
open Go.RowKit

def ckLong (h : Int) : Ck := ⟨-100000000, h, false⟩
def ckNever (h : Int) : Ck := ⟨100000001, h, false⟩
def prS (h : Int) (s : List (Ck × Ck) × Ck) (c : Ck) : List (Ck × Ck) × Ck := if c.hd = h then (s.1 ++ [(s.2, c)], c) else s
def prF (h : Int) (l : List Ck) : List (Ck × Ck) × Ck := l.foldl (prS h) ([], ckLong h)
def prL (h : Int) (l : List Ck) : List (Ck × Ck) := (prF h l).1 ++ [((prF h l).2, ckNever h)]
theorem prF_yes {h : Int} {l : List Ck} {k : Nat} (hk : k < l.length) (g : l[k].hd = h) : prF h (l.take (k + 1)) = ((prF h (l.take k)).1 ++ [((prF h (l.take k)).2, l[k])], l[k]) := by
  unfold prF
  rw [List.take_succ_eq_append_getElem hk, List.foldl_append]
  simp only [List.foldl_cons, List.foldl_nil]
  rw [prS, if_pos g]
theorem prF_no {h : Int} {l : List Ck} {k : Nat} (hk : k < l.length) (g : ¬ l[k].hd = h) : prF h (l.take (k + 1)) = prF h (l.take k) := by
  unfold prF
  rw [List.take_succ_eq_append_getElem hk, List.foldl_append]
  simp only [List.foldl_cons, List.foldl_nil]
  rw [prS, if_neg g]
theorem prS_pre (h : Int) : ∀ (l : List Ck) (s : List (Ck × Ck) × Ck), s.1 <+: (l.foldl (prS h) s).1
  | [], s => List.prefix_refl _
  | c :: l, s => by
    rw [List.foldl_cons]
    refine List.IsPrefix.trans ?_ (prS_pre h l _)
    unfold prS
    by_cases g : c.hd = h
    · rw [if_pos g]; exact List.prefix_append _ _
    · rw [if_neg g]; exact List.prefix_refl _
theorem prF_pre (h : Int) (l : List Ck) (k : Nat) : (prF h (l.take k)).1 <+: prL h l := by
  refine List.IsPrefix.trans ?_ (List.prefix_append _ _)
  have e : prF h l = (l.drop k).foldl (prS h) (prF h (l.take k)) := by
    unfold prF
    rw [← List.foldl_append, List.take_append_drop]
  rw [e]
  exact prS_pre h _ _
/-- How many pairs there are of the first k checks. -/
def prN (h : Int) (l : List Ck) (k : Nat) : Nat := (prF h (l.take k)).1.length
theorem prN_take (h : Int) (l : List Ck) (k : Nat) : (prL h l).take (prN h l k) = (prF h (l.take k)).1 := (List.prefix_iff_eq_take.1 (prF_pre h l k)).symm
theorem prN_get {h : Int} {l : List Ck} {k : Nat} (hk : k < l.length) (g : l[k].hd = h) : (prL h l)[prN h l k]? = some ((prF h (l.take k)).2, l[k]) ∧ prN h l (k + 1) = prN h l k + 1 := by
  have e := prF_yes hk g
  obtain ⟨t, ht⟩ := prF_pre h l (k + 1)
  refine ⟨?_, by unfold prN; rw [e]; simp⟩
  rw [← ht, e]
  unfold prN
  rw [List.getElem?_append_left (by simp)]
  simp
theorem prN_no {h : Int} {l : List Ck} {k : Nat} (hk : k < l.length) (g : ¬ l[k].hd = h) : prN h l (k + 1) = prN h l k := by
  unfold prN; rw [prF_no hk g]
theorem prN_end (h : Int) (l : List Ck) : (prL h l)[prN h l l.length]? = some ((prF h l).2, ckNever h) ∧ prN h l l.length + 1 = (prL h l).length := by
  unfold prN prL
  rw [List.take_length]
  refine ⟨?_, by simp⟩
  rw [List.getElem?_append_right (Nat.le_refl _)]
  simp
/-- A stretch told of each pair, between two ticks. -/
def tellL (f : Ck × Ck → Pr) (b E : Int) (l : List (Ck × Ck)) : List Pr := l.map fun p => ⟨max (f p).x b, min (f p).y E⟩
/-- What is overdue is told of the pairs. -/
def ovF (ev : Int) (p : Ck × Ck) : Pr := ⟨p.1.tk + ev, p.2.tk⟩
theorem gap_prF (h ev b E : Int) (hb : 0 ≤ b) (he : ev ≤ 100000000) (l : List Sh) : ∀ k, k ≤ l.length → (gapF h ev b E (l.take k)).1 = tellL (ovF ev) b E (prF h ((cksL (fun _ => true) l).take k)).1 ∧ max (gapF h ev b E (l.take k)).2 b = max ((prF h ((cksL (fun _ => true) l).take k)).2.tk + ev) b
  | 0, _ => by
    refine ⟨by simp [gapF, prF, tellL], ?_⟩
    show max b b = max (-100000000 + ev) b
    omega
  | k + 1, hk => by
    obtain ⟨i1, i2⟩ := gap_prF h ev b E hb he l k (by omega)
    have hkl : k < l.length := by omega
    have hck : k < (cksL (fun _ => true) l).length := by rw [cksL_len]; exact hkl
    have ec : (cksL (fun _ => true) l)[k] = ⟨l[k].tk, l[k].hd, true⟩ := by simp [cksL]
    by_cases g : l[k].hd = h
    · rw [gapF_yes hkl g, prF_yes hck (by rw [ec]; exact g), ec]
      refine ⟨?_, rfl⟩
      simp only [tellL, List.map_append, List.map_cons, List.map_nil]
      rw [i1, i2]
      rfl
    · rw [gapF_no hkl g, prF_no hck (by rw [ec]; exact g)]
      exact ⟨i1, i2⟩
/-- A head's stretches are those told of its pairs. -/
theorem gap_tell (h ev b E : Int) (hb : 0 ≤ b) (he : ev ≤ 100000000) (hE : E ≤ 100000000) (l : List Sh) : gapL h ev b E l = tellL (ovF ev) b E (prL h (cksL (fun _ => true) l)) := by
  obtain ⟨i1, i2⟩ := gap_prF h ev b E hb he l l.length (Nat.le_refl _)
  have e : (cksL (fun _ => true) l).take l.length = cksL (fun _ => true) l := List.take_of_length_le (by rw [cksL_len]; exact Nat.le_refl _)
  rw [List.take_length, e] at i1 i2
  unfold gapL prL
  simp only [tellL, List.map_append, List.map_cons, List.map_nil]
  rw [i1, i2]
  have e2 : min ((ovF ev ((prF h (cksL (fun _ => true) l)).2, ckNever h)).y) E = E := by
    show min 100000001 E = E
    omega
  rw [e2]
  rfl
end Go.Proofs.Ytjfakhfkbnnbcaa
