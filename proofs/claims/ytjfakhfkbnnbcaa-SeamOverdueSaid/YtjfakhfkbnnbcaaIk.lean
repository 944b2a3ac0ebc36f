/- Walk of the reference's sorted: contract. -/
import Derived.Test.YtjfakhfkbnnbcaaIf
import Derived.Test.YtjfakhfkbnnbcaaIj
namespace Go.Proofs.Ytjfakhfkbnnbcaa
open Go.RowKit

/-- A beginning and a rest of a slice of pairs. -/
theorem RowX.beg {w : World} {a : Option Addr} {n c k : Nat} {l : List Pr} (h : RowX w (.slice a n c) l) (hk : k ≤ n) : RowX w (.slice a k c) (l.take k) := by
  obtain ⟨a', b, o, cap, hv, h2, h3, h4, h5⟩ := h
  injection hv with e1 e2 e3
  subst e1 e2 e3
  have e : (l.take k).length = k := by rw [List.length_take]; omega
  refine ⟨a, b, o, c, by rw [e], by rw [e]; omega, h3, ?_, fun j hj => ?_⟩
  · rcases h4 with rfl | h4
    · exact .inl (by simp)
    · exact .inr h4
  · rw [e] at hj
    simpa using h5 j (by omega)
theorem RowX.back {w : World} {b o n c k : Nat} {l : List Pr} (h : RowX w (.slice (some ⟨b, o, none⟩) n c) l) (hk : k ≤ n) (hp : 0 < n) : RowX w (.slice (some ⟨b, o + k * 2, none⟩) (n - k) (c - k)) (l.drop k) := by
  obtain ⟨a', b', o', cap, hv, h2, h3, h4, h5⟩ := h
  injection hv with e1 e2 e3
  subst e2 e3
  have hne : l ≠ [] := by rintro rfl; simp at hp
  rcases h4 with h4 | h4
  · exact absurd h4 hne
  · rw [← e1] at h4
    injection h4 with h4
    injection h4 with q1 q2
    subst q1 q2
    have e : (l.drop k).length = l.length - k := by rw [List.length_drop]
    refine ⟨_, b, o + k * 2, c - k, by rw [e], by rw [e]; omega, by omega, .inr rfl, fun j hj => ?_⟩
    rw [e] at hj
    have g := h5 (k + j) (by omega)
    rw [show o + k * 2 + j * 2 = o + (k + j) * 2 by omega]
    simpa using g
/-- Two ascending lists merged: what is taken so far. -/
structure Mg (out a b l m : List Pr) : Prop where
  perm : (out ++ (a ++ b)).Perm (l ++ m)
  asc : Asc out
  la : ∀ p ∈ out, ∀ q ∈ a, p.x ≤ q.x
  lb : ∀ p ∈ out, ∀ q ∈ b, p.x ≤ q.x
theorem mg_start (l m : List Pr) : Mg [] l m l m := ⟨List.Perm.refl _, List.Pairwise.nil, (fun p h => by cases h), (fun p h => by cases h)⟩
theorem asc_snoc {l : List Pr} {p : Pr} (h : Asc l) (g : ∀ q ∈ l, q.x ≤ p.x) : Asc (l ++ [p]) :=
  List.pairwise_append.2 ⟨h, List.pairwise_singleton _ _, fun q hq r hr => by
    have e : r = p := by simpa using hr
    rw [e]
    exact g q hq⟩
theorem mg_a {out a b l m : List Pr} {p : Pr} (h : Mg out (p :: a) b l m) (ha : Asc (p :: a)) (hb : ∀ q ∈ b, p.x ≤ q.x) : Mg (out ++ [p]) a b l m := by
  refine ⟨?_, asc_snoc h.asc (fun q hq => h.la q hq p (by simp)), fun q hq r hr => ?_, fun q hq r hr => ?_⟩
  · have := h.perm
    rw [List.append_assoc]
    exact this
  · rcases List.mem_append.1 hq with hq | hq
    · exact h.la q hq r (by simp [hr])
    · obtain rfl : q = p := by simpa using hq
      exact (List.pairwise_cons.1 ha).1 r hr
  · rcases List.mem_append.1 hq with hq | hq
    · exact h.lb q hq r hr
    · obtain rfl : q = p := by simpa using hq
      exact hb r hr
theorem mg_b {out a b l m : List Pr} {p : Pr} (h : Mg out a (p :: b) l m) (hb : Asc (p :: b)) (ha : ∀ q ∈ a, p.x ≤ q.x) : Mg (out ++ [p]) a b l m := by
  refine ⟨?_, asc_snoc h.asc (fun q hq => h.lb q hq p (by simp)), fun q hq r hr => ?_, fun q hq r hr => ?_⟩
  · refine List.Perm.trans ?_ h.perm
    rw [List.append_assoc]
    refine List.Perm.append_left out ?_
    rw [List.singleton_append]
    exact List.perm_middle.symm
  · rcases List.mem_append.1 hq with hq | hq
    · exact h.la q hq r hr
    · obtain rfl : q = p := by simpa using hq
      exact ha r hr
  · rcases List.mem_append.1 hq with hq | hq
    · exact h.lb q hq r (by simp [hr])
    · obtain rfl : q = p := by simpa using hq
      exact (List.pairwise_cons.1 hb).1 r hr
theorem mg_end {out a b l m : List Pr} (h : Mg out a b l m) (ha : Asc a) (hb : Asc b) (h0 : a = [] ∨ b = []) : (out ++ a ++ b).Perm (l ++ m) ∧ Asc (out ++ a ++ b) := by
  refine ⟨by rw [List.append_assoc]; exact h.perm, ?_⟩
  rcases h0 with rfl | rfl
  · rw [List.append_nil]
    exact List.pairwise_append.2 ⟨h.asc, hb, h.lb⟩
  · rw [List.append_nil]
    exact List.pairwise_append.2 ⟨h.asc, ha, h.la⟩
theorem asc_drop {l : List Pr} {p : Pr} (h : Asc (p :: l)) : Asc l := (List.pairwise_cons.1 h).2
theorem asc_first {p q : Pr} {l : List Pr} (h : Asc (q :: l)) (g : p.x ≤ q.x) : ∀ r ∈ q :: l, p.x ≤ r.x := by
  intro r hr
  rcases List.mem_cons.1 hr with rfl | hr
  · exact g
  · have := (List.pairwise_cons.1 h).1 r hr
    omega
theorem asc_few {l : List Pr} (h : l.length < 2) : Asc l := by
  match l, h with
  | [], _ => exact List.Pairwise.nil
  | [p], _ => exact List.pairwise_singleton _ _
end Go.Proofs.Ytjfakhfkbnnbcaa
