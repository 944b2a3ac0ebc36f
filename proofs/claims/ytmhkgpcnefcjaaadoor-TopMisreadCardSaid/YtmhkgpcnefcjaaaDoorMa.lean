/- Misread signs: plain facts. -/
import Derived.Test.YtmhkgpcnefcjaaaDoorDt
namespace Go.Proofs.YtmhkgpcnefcjaaaDoor
open Go.RowKit

theorem sgn_back {c : UInt8} (h : 0 ≤ valB c) : sgn (valB c) = c := by
  have : ∀ k : Fin 256, 0 ≤ valB (UInt8.ofNat k.val) → sgn (valB (UInt8.ofNat k.val)) = UInt8.ofNat k.val := by decide +kernel
  have h2 := this ⟨c.toNat, c.toNat_lt⟩
  simpa using h2 (by simpa using h)
theorem least_v (p : Nat → Bool) : ∀ N : Nat, (∃ v, v < N ∧ p v = true) → ∃ v, v < N ∧ (∀ j < v, p j = false) ∧ p v = true
  | 0, ⟨_, h, _⟩ => by omega
  | N + 1, ⟨v, h, hv⟩ => by
    by_cases g : ∃ v, v < N ∧ p v = true
    · obtain ⟨u, h1, h2, h3⟩ := least_v p N g
      exact ⟨u, by omega, h2, h3⟩
    · have e : v = N := by
        by_cases e : v = N
        · exact e
        · exact absurd ⟨v, by omega, hv⟩ g
      subst e
      refine ⟨v, by omega, fun j hj => ?_, hv⟩
      cases hp : p j
      · rfl
      · exact absurd ⟨j, hj, hp⟩ g
/-- A text with one sign written anew. -/
def setS (s : ByteArray) (k : Nat) (c : UInt8) : ByteArray := ⟨s.data.setIfInBounds k c⟩
theorem setS_list (s : ByteArray) (k : Nat) (c : UInt8) : (setS s k c).data.toList = s.data.toList.set k c := by unfold setS; simp
theorem setS_size (s : ByteArray) (k : Nat) (c : UInt8) : (setS s k c).size = s.size := by
  show (s.data.setIfInBounds k c).size = s.data.size
  simp
theorem vals_setS (s : ByteArray) (k : Nat) (c : UInt8) : vals (setS s k c) = (vals s).set k (valB c) := by
  unfold vals
  rw [setS_list, List.map_set]
theorem nine_setS {s : ByteArray} {k : Nat} {c : UInt8} (h : nineB s = true) (hc : 0 ≤ valB c) : nineB (setS s k c) = true := by
  obtain ⟨h1, h2⟩ := nineB_iff.1 h
  refine nineB_iff.2 ⟨by rw [setS_size]; exact h1, ?_⟩
  rw [setS_list]
  unfold allSg at h2 ⊢
  rw [List.all_eq_true] at h2 ⊢
  intro x hx
  rcases List.mem_or_eq_of_mem_set hx with h3 | h3
  · exact h2 x h3
  · subst h3; simpa using hc
theorem back_list : ∀ l : List UInt8, allSg l = true → l.map (sgn ∘ valB) = l
  | [], _ => rfl
  | a :: l, h => by
    unfold allSg at h
    rw [List.all_cons, Bool.and_eq_true] at h
    rw [List.map_cons, back_list l (by unfold allSg; exact h.2), Function.comp, sgn_back (by simpa using h.1)]
theorem txt_vals {s : ByteArray} (h : nineB s = true) : txt (vals s) = s := by
  have h2 := (nineB_iff.1 h).2
  unfold txt vals
  rw [List.map_map, back_list _ h2]
theorem soundB_iff {l : List Int} : soundB l = true ↔ wsum 1 l % 31 = 0 := by unfold soundB wt; rw [beq_iff_eq]
theorem uniq9 {p : Nat} (hp : p < 9) {a b z : Int} (ha : 0 ≤ a ∧ a ≤ 30) (hb : 0 ≤ b ∧ b ≤ 30) (h1 : (z + ((p : Int) + 1) * a) % 31 = 0) (h2 : (z + ((p : Int) + 1) * b) % 31 = 0) : a = b := by
  have : p = 0 ∨ p = 1 ∨ p = 2 ∨ p = 3 ∨ p = 4 ∨ p = 5 ∨ p = 6 ∨ p = 7 ∨ p = 8 := by omega
  rcases this with rfl | rfl | rfl | rfl | rfl | rfl | rfl | rfl | rfl <;> omega
theorem one_sound {l : List Int} (hl : l.length = 9) {p : Nat} (hp : p < 9) {a b : Int} (ha : 0 ≤ a ∧ a ≤ 30) (hb : 0 ≤ b ∧ b ≤ 30) (h1 : soundB (l.set p a) = true) (h2 : soundB (l.set p b) = true) : a = b := by
  rw [soundB_iff, wsum_set hl hp] at h1 h2
  exact uniq9 hp ha hb h1 h2
theorem set_unsound {l : List Int} (h : Is9 l) (hs : soundB l = true) {p : Nat} (hp : p < 9) {x : Int} (hx : 0 ≤ x ∧ x ≤ 30) (hne : l[p]? ≠ some x) : soundB (l.set p x) = false := by
  cases hc : soundB (l.set p x)
  · rfl
  have hpl : p < l.length := by rw [h.1]; exact hp
  have e : l.set p l[p] = l := List.set_getElem_self _
  rw [← e] at hs
  have := one_sound h.1 hp (h.2 _ (List.getElem_mem hpl)) hx hs hc
  rw [List.getElem?_eq_getElem hpl, this] at hne
  exact absurd rfl hne
theorem swap_unsound {l : List Int} (h : Is9 l) (hs : soundB l = true) {p : Nat} (hp : p < 8) {a b : Int} (ha : l[p]? = some a) (hb : l[p + 1]? = some b) (hne : a ≠ b) : soundB ((l.set p b).set (p + 1) a) = false := by
  cases hc : soundB ((l.set p b).set (p + 1) a)
  · rfl
  rw [soundB_iff] at hs hc
  have h1 := h.2 a (List.mem_of_getElem? ha)
  have h2 := h.2 b (List.mem_of_getElem? hb)
  obtain ⟨c, d, e, f, g, i, j, k, m, rfl⟩ := nine_list h.1
  have : p = 0 ∨ p = 1 ∨ p = 2 ∨ p = 3 ∨ p = 4 ∨ p = 5 ∨ p = 6 ∨ p = 7 := by omega
  clear h
  rcases this with rfl | rfl | rfl | rfl | rfl | rfl | rfl | rfl <;> simp only [List.set_cons_zero, List.set_cons_succ, wsum, List.getElem?_cons_zero, List.getElem?_cons_succ, Option.some.injEq, Nat.zero_add] at * <;> subst ha hb <;> omega
theorem mv_ok {l : List Int} (hl : l.length = 9) {p : Nat} (hp : p < 9) : mv l p < 31 ∧ soundB (l.set p (mv l p : Int)) = true := by
  obtain ⟨u, h1, h2, h3⟩ := least_v (fun v => soundB (l.set p (v : Int))) 31 (mend_ex hl hp)
  rw [mv_of h1 h2 h3]
  exact ⟨h1, h3⟩
theorem mend_is9 {l : List Int} (h : Is9 l) {p : Nat} (hp : p < 9) : Is9 (mend l p) := is9_set h p (by have := (mv_ok h.1 hp).1; omega)
theorem mend_ne {l : List Int} (h : Is9 l) (hs : soundB l = false) {p : Nat} (hp : p < 9) : mend l p ≠ l := by
  intro e
  have h1 : soundB (mend l p) = true := (mv_ok h.1 hp).2
  rw [e, hs] at h1
  cases h1
theorem mend_back {l : List Int} (h : Is9 l) (hs : soundB l = true) {p : Nat} (hp : p < 9) {x : Int} (hx : 0 ≤ x ∧ x ≤ 30) : mend (l.set p x) p = l := by
  have hpl : p < l.length := by rw [h.1]; exact hp
  have h1 := mv_ok (is9_set h p hx).1 hp
  have e : l.set p l[p] = l := List.set_getElem_self _
  unfold mend
  rw [List.set_set] at h1 ⊢
  have h2 := one_sound h.1 hp (h.2 _ (List.getElem_mem hpl)) (b := (mv (l.set p x) p : Int)) (by omega) (by rw [e]; exact hs) h1.2
  rw [← h2, e]
/-- The nine codes beside a text that is not sound, in the order of the places. -/
def nearL (l : List Int) (n : Nat) : List (List UInt8) := (List.range n).map fun p => (mend l p).map sgn
theorem nearL_succ (l : List Int) (n : Nat) : nearL l (n + 1) = nearL l n ++ [(mend l n).map sgn] := by
  unfold nearL
  rw [List.range_succ, List.map_append]
  rfl
theorem nearL_len (l : List Int) (n : Nat) : (nearL l n).length = n := by unfold nearL; simp
theorem near_mem {s : ByteArray} (h : nineB s = true) (hs : soundB (vals s) = true) {p : Nat} (hp : p < 9) {x : Int} (hx : 0 ≤ x ∧ x ≤ 30) : s.data.toList ∈ nearL ((vals s).set p x) 9 := by
  unfold nearL
  refine List.mem_map.2 ⟨p, List.mem_range.2 hp, ?_⟩
  rw [mend_back (vals_is9 h) hs hp hx]
  have := congrArg (fun z : ByteArray => z.data.toList) (txt_vals h)
  simpa [txt] using this
end Go.Proofs.YtmhkgpcnefcjaaaDoor
