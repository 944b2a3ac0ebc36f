/- Plain facts of Overdue: its pairs' ticks, and the heads' stretches as those of the reference. -/
import Derived.Test.YtjfakhfkbnnbcaaZp
import Derived.Test.YtjfakhfkbnnbcaaZj
namespace Go.Proofs.Ytjfakhfkbnnbcaa
open Go.RowKit Go.Shelf

theorem prS_in (h : Int) (L : List Ck) : ∀ (l : List Ck) (s : List (Ck × Ck) × Ck), (∀ c ∈ l, c ∈ L) → (∀ p ∈ s.1, (p.1 = ckLong h ∨ p.1 ∈ L) ∧ p.2 ∈ L) → (s.2 = ckLong h ∨ s.2 ∈ L) →
    (∀ p ∈ (l.foldl (prS h) s).1, (p.1 = ckLong h ∨ p.1 ∈ L) ∧ p.2 ∈ L) ∧ ((l.foldl (prS h) s).2 = ckLong h ∨ (l.foldl (prS h) s).2 ∈ L)
  | [], s, _, h1, h2 => ⟨h1, h2⟩
  | c :: l, s, hl, h1, h2 => by
    rw [List.foldl_cons]
    have hc : c ∈ L := hl c List.mem_cons_self
    refine prS_in h L l _ (fun d hd => hl d (List.mem_cons_of_mem _ hd)) ?_ ?_
    · unfold prS
      by_cases g : c.hd = h
      · rw [if_pos g]
        intro p hp
        rcases List.mem_append.1 hp with hp | hp
        · exact h1 p hp
        · obtain rfl : p = (s.2, c) := by simpa using hp
          exact ⟨h2, hc⟩
      · rw [if_neg g]; exact h1
    · unfold prS
      by_cases g : c.hd = h
      · rw [if_pos g]; exact .inr hc
      · rw [if_neg g]; exact h2
/-- The checks of a pair are some of the head's, or those that stand for what is missing. -/
theorem prL_in {h : Int} {l : List Ck} {p : Ck × Ck} (hp : p ∈ prL h l) : (p.1 = ckLong h ∨ p.1 ∈ l) ∧ (p.2 = ckNever h ∨ p.2 ∈ l) := by
  obtain ⟨i1, i2⟩ := prS_in h l l ([], ckLong h) (fun _ h => h) (fun p hp => by cases hp) (.inl rfl)
  rcases List.mem_append.1 hp with hp | hp
  · have := i1 p hp
    exact ⟨this.1, .inr this.2⟩
  · obtain rfl : p = ((prF h l).2, ckNever h) := by simpa using hp
    exact ⟨i2, .inl rfl⟩
theorem cks_ticks {G : Sh → Bool} {l : List Sh} (h : shsB l = true) {c : Ck} (hc : c ∈ cksL G l) : 0 ≤ c.tk ∧ c.tk ≤ 100000000 := by
  unfold cksL at hc
  obtain ⟨x, hx, rfl⟩ := List.mem_map.1 hc
  obtain ⟨k, hk, rfl⟩ := List.mem_iff_getElem.1 hx
  exact shs_ticks h k hk
theorem pr_ticks {G : Sh → Bool} {l : List Sh} (h : shsB l = true) {hd : Int} {p : Ck × Ck} (hp : p ∈ prL hd (cksL G l)) : (-100000000 ≤ p.1.tk ∧ p.1.tk ≤ 100000001) ∧ (-100000000 ≤ p.2.tk ∧ p.2.tk ≤ 100000001) := by
  obtain ⟨h1, h2⟩ := prL_in hp
  refine ⟨?_, ?_⟩
  · rcases h1 with h1 | h1
    · rw [h1]; exact ⟨Int.le_refl _, by show (-100000000 : Int) ≤ 100000001; omega⟩
    · have := cks_ticks h h1; omega
  · rcases h2 with h2 | h2
    · rw [h2]; exact ⟨by show (-100000000 : Int) ≤ 100000001; omega, Int.le_refl _⟩
    · have := cks_ticks h h2; omega
theorem allT_gaps (ev b E : Int) (hb : 0 ≤ b) (he : ev ≤ 100000000) (hE : E ≤ 100000000) (l : List Sh) : ∀ n : Nat, allT (ovF ev) b E (cksL (fun _ => true) l) (upL n) = gapsN ev b E l n
  | 0 => rfl
  | n + 1 => by
    rw [upL_succ]
    have ih := allT_gaps ev b E hb he hE l n
    unfold allT at ih ⊢
    rw [List.flatMap_append, ih]
    simp only [gapsN, List.flatMap_cons, List.flatMap_nil, List.append_nil]
    rw [gap_tell _ _ _ _ hb he hE]
end Go.Proofs.Ytjfakhfkbnnbcaa
