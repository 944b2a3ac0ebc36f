/- Plain facts of distances between codes. -/
import Derived.Test.YtmhkgpcnefcjaaaDoorMa
namespace Go.Proofs.YtmhkgpcnefcjaaaDoor
open Go.RowKit

/-- At how many of the first k places two lists differ. -/
def difN (l m : List Int) : Nat → Int
  | 0 => 0
  | k + 1 => difN l m k + if l[k]? = m[k]? then 0 else 1
theorem difN_bd (l m : List Int) : ∀ k : Nat, 0 ≤ difN l m k ∧ difN l m k ≤ k
  | 0 => by simp [difN]
  | k + 1 => by
    have := difN_bd l m k
    unfold difN
    split <;> omega
def dist9 (l m : List Int) : Int := difN l m 9
theorem dist9_bd (l m : List Int) : 0 ≤ dist9 l m ∧ dist9 l m ≤ 9 := by
  have := difN_bd l m 9
  unfold dist9
  omega
theorem difN_yes {l m : List Int} {k : Nat} (h : l[k]? = m[k]?) : difN l m (k + 1) = difN l m k := by
  simp [difN, h]
theorem difN_no {l m : List Int} {k : Nat} (h : ¬ l[k]? = m[k]?) : difN l m (k + 1) = difN l m k + 1 := by
  simp [difN, h]
theorem difN_set (l m : List Int) (p : Nat) (x : Int) : ∀ k : Nat, difN (l.set p x) m k ≤ difN l m k + (if p < k then 1 else 0)
  | 0 => by simp [difN]
  | k + 1 => by
    have h := difN_set l m p x k
    unfold difN
    by_cases e : p = k
    · subst e
      have h2 : ¬ p < p := Nat.lt_irrefl p
      rw [if_neg h2] at h
      rw [if_pos (Nat.lt_succ_self p)]
      split <;> split <;> omega
    · rw [List.getElem?_set_ne e]
      generalize (if l[k]? = m[k]? then (0 : Int) else 1) = z
      by_cases g : p < k
      · rw [if_pos g] at h
        rw [if_pos (by omega)]
        omega
      · rw [if_neg g] at h
        rw [if_neg (by omega)]
        omega
theorem dist9_set (l m : List Int) (p : Nat) (x : Int) : dist9 (l.set p x) m ≤ dist9 l m + 1 := by
  have h := difN_set l m p x 9
  unfold dist9
  split at h <;> omega
theorem dist9_self (l : List Int) : dist9 l l = 0 := by simp [dist9, difN]
theorem difN_zero {l m : List Int} : ∀ {k : Nat}, difN l m k = 0 → ∀ j < k, l[j]? = m[j]?
  | 0, _, j, hj => by omega
  | k + 1, h, j, hj => by
    have hb := difN_bd l m k
    by_cases e : l[k]? = m[k]?
    · rw [difN_yes e] at h
      by_cases g : j = k
      · subst g; exact e
      · exact difN_zero h j (by omega)
    · rw [difN_no e] at h; omega
theorem difN_one {l m : List Int} : ∀ {k : Nat}, difN l m k = 1 → ∃ p, p < k ∧ ¬ l[p]? = m[p]? ∧ ∀ j < k, j ≠ p → l[j]? = m[j]?
  | 0, h => by simp [difN] at h
  | k + 1, h => by
    by_cases e : l[k]? = m[k]?
    · rw [difN_yes e] at h
      obtain ⟨p, h1, h2, h3⟩ := difN_one h
      refine ⟨p, by omega, h2, fun j hj hne => ?_⟩
      by_cases g : j = k
      · subst g; exact e
      · exact h3 j (by omega) hne
    · rw [difN_no e] at h
      have h0 : difN l m k = 0 := by omega
      exact ⟨k, by omega, e, fun j hj hne => difN_zero h0 j (by omega)⟩
/-- One place changed: as a list with one place set. -/
theorem dist_one_set {l m : List Int} (hl : l.length = 9) (hm : m.length = 9) (h : dist9 l m = 1) : ∃ (p : Nat) (hp : p < 9), l = m.set p (l[p]'(by omega)) ∧ m[p]? ≠ some (l[p]'(by omega)) := by
  obtain ⟨p, hp, hne, hj⟩ := difN_one h
  refine ⟨p, hp, ?_, ?_⟩
  · apply List.ext_getElem?
    intro j
    by_cases e : p = j
    · subst e
      rw [List.getElem?_set_self (by omega), List.getElem?_eq_getElem (by omega)]
    · rw [List.getElem?_set_ne e]
      by_cases g : j < 9
      · exact hj j g (by omega)
      · rw [List.getElem?_eq_none (by omega), List.getElem?_eq_none (by omega)]
  · rw [List.getElem?_eq_getElem (show p < l.length by omega)] at hne
    exact fun g => hne g.symm
theorem one_off {s c : ByteArray} (hs : nineB s = true) (hc : nineB c = true) (hcs : soundB (vals c) = true) (h : dist9 (vals s) (vals c) = 1) : soundS s = false := by
  have h1 := vals_is9 hs
  have h2 := vals_is9 hc
  obtain ⟨p, hp, e, hne⟩ := dist_one_set h1.1 h2.1 h
  have hx := h1.2 _ (List.getElem_mem (show p < (vals s).length by rw [h1.1]; exact hp))
  have := set_unsound h2 hcs hp hx hne
  unfold soundS
  rw [hs, e, this]
  rfl
/-- Bytes differ where their values do. -/
theorem byte_val {a b : UInt8} (ha : 0 ≤ valB a) (hb : 0 ≤ valB b) : (a = b) ↔ (valB a = valB b) :=
  ⟨fun h => by rw [h], fun h => by rw [← sgn_back ha, ← sgn_back hb, h]⟩
theorem nine_at {s : ByteArray} (h : nineB s = true) (k : Nat) (hk : k < s.size) : 0 ≤ valB (s[k]'hk) := allSg_at (nineB_iff.1 h).2 k hk
theorem vals_opt9 {s : ByteArray} (h : nineB s = true) {k : Nat} (hk : k < 9) : ∃ hk' : k < s.size, (vals s)[k]? = some (valB (s[k]'hk')) := by
  have hs := (nineB_iff.1 h).1
  have hk' : k < s.size := by omega
  refine ⟨hk', ?_⟩
  rw [List.getElem?_eq_getElem (by rw [vals_len]; exact hk'), vals_at s k hk']
/-- The distances of the codes of a list. -/
def dsL (s : ByteArray) (ls : List ByteArray) : List Int := ls.map fun c => dist9 (vals s) (vals c)
def okS (s : ByteArray) (ls : List ByteArray) : Bool := nineB s && ls.all nineB
theorem dsL_len (s : ByteArray) (ls : List ByteArray) : (dsL s ls).length = ls.length := by simp [dsL]
theorem dsL_at (s : ByteArray) (ls : List ByteArray) {k : Nat} (h : k < ls.length) (h' : k < (dsL s ls).length) : (dsL s ls)[k] = dist9 (vals s) (vals (ls[k])) := by simp [dsL]
theorem dsL_bd {s : ByteArray} {ls : List ByteArray} {x : Int} (h : x ∈ dsL s ls) : 0 ≤ x ∧ x ≤ 9 := by
  obtain ⟨c, _, rfl⟩ := List.mem_map.1 h
  exact dist9_bd _ _
/-- The indexes below k of the numbers that are at most a number. -/
def upN (most : Int) (ds : List Int) : Nat → List Int
  | 0 => []
  | k + 1 => upN most ds k ++ if ds.getD k 0 ≤ most then [(k : Int)] else []
def upQ (most : Int) (ds : List Int) : List Int := upN most ds ds.length
theorem upN_yes {most : Int} {ds : List Int} {k : Nat} (hk : k < ds.length) (h : ds[k] ≤ most) : upN most ds (k + 1) = upN most ds k ++ [(k : Int)] := by
  have : ds.getD k 0 ≤ most := by simpa [List.getD, hk] using h
  simp only [upN, if_pos this]
theorem upN_no {most : Int} {ds : List Int} {k : Nat} (hk : k < ds.length) (h : ¬ ds[k] ≤ most) : upN most ds (k + 1) = upN most ds k := by
  have : ¬ ds.getD k 0 ≤ most := by simpa [List.getD, hk] using h
  simp only [upN, if_neg this, List.append_nil]
theorem upN_len (most : Int) (ds : List Int) : ∀ k : Nat, (upN most ds k).length ≤ k
  | 0 => Nat.le_refl _
  | k + 1 => by
    have := upN_len most ds k
    unfold upN
    rw [List.length_append]
    split <;> simp <;> omega
theorem upQ_len (most : Int) (ds : List Int) : (upQ most ds).length ≤ ds.length := upN_len _ _ _
theorem upN_mem {most : Int} {ds : List Int} {x : Int} : ∀ {k : Nat}, x ∈ upN most ds k ↔ ∃ j : Nat, j < k ∧ x = (j : Int) ∧ ds.getD j 0 ≤ most
  | 0 => by simp [upN]
  | k + 1 => by
    unfold upN
    rw [List.mem_append, upN_mem]
    constructor
    · rintro (⟨j, h1, h2, h3⟩ | h)
      · exact ⟨j, by omega, h2, h3⟩
      · split at h
        · rename_i g
          rw [List.mem_singleton] at h
          exact ⟨k, by omega, h, g⟩
        · cases h
    · rintro ⟨j, h1, h2, h3⟩
      by_cases e : j = k
      · subst e
        right
        rw [if_pos h3, List.mem_singleton]
        exact h2
      · exact .inl ⟨j, by omega, h2, h3⟩
theorem upN_sub {a b : Int} (h : a ≤ b) (ds : List Int) : ∀ k : Nat, (upN a ds k).Sublist (upN b ds k)
  | 0 => List.Sublist.refl _
  | k + 1 => by
    unfold upN
    refine (upN_sub h ds k).append ?_
    by_cases g : ds.getD k 0 ≤ a
    · rw [if_pos g, if_pos (by omega)]
      exact List.Sublist.refl _
    · rw [if_neg g]
      exact List.nil_sublist _
/-- The least number of a list. -/
def IsMin (d : Int) (ds : List Int) : Prop := d ∈ ds ∧ ∀ x ∈ ds, d ≤ x
theorem IsMin.uniq {a b : Int} {ds : List Int} (h : IsMin a ds) (g : IsMin b ds) : a = b := by
  have := h.2 b g.1
  have := g.2 a h.1
  omega
theorem upQ_at {most : Int} {ds : List Int} {j : Nat} (hj : j < ds.length) (h : ds[j] ≤ most) : (j : Int) ∈ upQ most ds :=
  upN_mem.2 ⟨j, hj, rfl, by simpa [List.getD, hj] using h⟩
theorem upQ_of {most : Int} {ds : List Int} {x : Int} (h : x ∈ upQ most ds) : ∃ (j : Nat) (hj : j < ds.length), x = (j : Int) ∧ ds[j] ≤ most := by
  obtain ⟨j, h1, h2, h3⟩ := upN_mem.1 h
  exact ⟨j, h1, h2, by simpa [List.getD, h1] using h3⟩
/-- Where one index alone is told, it is the nearest's, too. -/
theorem only_near {d most i : Int} {ds : List Int} (hm : IsMin d ds) (h : upQ most ds = [i]) : upQ d ds = [i] := by
  have hi : i ∈ upQ most ds := by rw [h]; exact List.mem_singleton.2 rfl
  obtain ⟨j, hj, e, hle⟩ := upQ_of hi
  have hd : d ≤ most := by have := hm.2 _ (List.getElem_mem hj); omega
  have hs : (upQ d ds).Sublist [i] := by rw [← h]; exact upN_sub hd ds _
  obtain ⟨p, hp, hpd⟩ := List.getElem_of_mem hm.1
  have hin : (p : Int) ∈ upQ d ds := upQ_at hp (by omega)
  rcases hq : upQ d ds with _ | ⟨x, t⟩
  · rw [hq] at hin; cases hin
  · rw [hq] at hs
    have hl := hs.length_le
    simp at hl
    subst hl
    have := hs.subset (List.mem_singleton.2 rfl)
    rw [List.mem_singleton] at this
    rw [this]
theorem upQ_more (most : Int) (ds : List Int) : (upQ most ds).length ≤ (upQ (most + 1) ds).length := (upN_sub (by omega) ds _).length_le
theorem min_ex : ∀ {ds : List Int}, ds ≠ [] → ∃ d, IsMin d ds
  | [], h => absurd rfl h
  | [a], _ => ⟨a, List.mem_singleton.2 rfl, fun x hx => by rw [List.mem_singleton] at hx; omega⟩
  | a :: b :: l, _ => by
    obtain ⟨d, h1, h2⟩ := min_ex (ds := b :: l) (by simp)
    by_cases g : a ≤ d
    · exact ⟨a, List.mem_cons_self .., fun x hx => by
        rcases List.mem_cons.1 hx with rfl | hx
        · omega
        · have := h2 x hx; omega⟩
    · exact ⟨d, List.mem_cons_of_mem _ h1, fun x hx => by
        rcases List.mem_cons.1 hx with rfl | hx
        · omega
        · exact h2 x hx⟩
end Go.Proofs.YtmhkgpcnefcjaaaDoor
