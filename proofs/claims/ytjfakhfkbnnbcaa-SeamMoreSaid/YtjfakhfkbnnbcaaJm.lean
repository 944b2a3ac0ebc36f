/- SeamBad's walk: plain facts. -/
import Derived.Test.YtjfakhfkbnnbcaaJl
namespace Go.Proofs.Ytjfakhfkbnnbcaa
open Go.RowKit

theorem bef_at {l : List Sh} (h : shsB l = true) : ∀ i j (hi : i < l.length) (hj : j < l.length), i < j → befB l[i] l[j] = true := by
  have hs : ∀ i (hi : i + 1 < l.length), befB l[i] l[i + 1] = true := fun i hi => by
    unfold shsB at h
    simp only [Bool.and_eq_true] at h
    have h1 := allB_iff.1 h.2 (i + 1) hi
    unfold oneS at h1
    simp only [Bool.and_eq_true, Nat.add_sub_cancel] at h1
    have e1 : l.getD (i + 1) shD = l[i + 1] := by simp [List.getD, hi]
    have e2 : l.getD i shD = l[i] := by simp [List.getD]; rw [List.getElem?_eq_getElem (by omega)]; rfl
    rw [e1, e2] at h1
    simpa using h1.2
  intro i j hi hj hij
  obtain ⟨d, rfl⟩ : ∃ d, j = i + 1 + d := ⟨j - i - 1, by omega⟩
  clear hij
  induction d with
  | zero => exact hs i hj
  | succ d ih =>
    have a := ih (by omega)
    have c := hs (i + 1 + d) (by omega)
    have e : i + 1 + (d + 1) = i + 1 + d + 1 := by omega
    simp only [e]
    unfold befB at a c ⊢
    simp only [Bool.or_eq_true, Bool.and_eq_true, decide_eq_true_iff] at a c ⊢
    omega
theorem ofH_mem {h : Int} {G : Sh → Bool} {l : List Sh} {c : Ck} (hc : c ∈ ofH h (cksL G l)) : ∃ k, ∃ hk : k < l.length, l[k].hd = h ∧ c = ckOf G l[k] := by
  unfold ofH at hc
  obtain ⟨h1, h2⟩ := List.mem_filter.1 hc
  unfold cksL at h1
  obtain ⟨x, hx, rfl⟩ := List.mem_map.1 h1
  obtain ⟨k, hk, rfl⟩ := List.mem_iff_getElem.1 hx
  exact ⟨k, hk, by simpa using h2, rfl⟩
theorem mem_ofH {h : Int} {G : Sh → Bool} {l : List Sh} {k : Nat} (hk : k < l.length) (g : l[k].hd = h) : ckOf G l[k] ∈ ofH h (cksL G l) := by
  unfold ofH cksL
  exact List.mem_filter.2 ⟨List.mem_map.2 ⟨l[k], List.getElem_mem hk, rfl⟩, decide_eq_true g⟩
theorem first_le {F : List Ck} {t : Int} {y c : Ck} (ha : AscK F) (hy : hiK2 F t = some y) (hc : c ∈ F) (ht : t < c.tk) : y.tk ≤ c.tk := by
  unfold hiK2 at hy
  have hm : c ∈ F.filter fun c => decide (t < c.tk) := List.mem_filter.2 ⟨hc, by simpa using ht⟩
  have hp : AscK (F.filter fun c => decide (t < c.tk)) := List.Pairwise.filter _ ha
  generalize F.filter (fun c => decide (t < c.tk)) = L at hy hm hp
  rcases L with _ | ⟨z, L⟩
  · cases hm
  · obtain rfl : z = y := by simpa using hy
    rcases List.mem_cons.1 hm with rfl | hm
    · exact Int.le_refl _
    · exact (List.pairwise_cons.1 hp).1 c hm
theorem pr_lastK (l : List Ck) : l = [] ∨ ∃ l0 d, l = l0 ++ [d] := by
  rcases List.eq_nil_or_concat l with h | ⟨l0, d, h⟩
  · exact .inl h
  · exact .inr ⟨l0, d, by rw [h, List.concat_eq_append]⟩
theorem last_ge {F : List Ck} {t : Int} {y c : Ck} (ha : AscK F) (hy : loK2 F t = some y) (hc : c ∈ F) (ht : c.tk ≤ t) : c.tk ≤ y.tk := by
  unfold loK2 at hy
  have hm : c ∈ F.filter fun c => decide (c.tk ≤ t) := List.mem_filter.2 ⟨hc, by simpa using ht⟩
  have hp : AscK (F.filter fun c => decide (c.tk ≤ t)) := List.Pairwise.filter _ ha
  generalize F.filter (fun c => decide (c.tk ≤ t)) = L at hy hm hp
  rcases pr_lastK L with rfl | ⟨L0, d, rfl⟩
  · cases hm
  · rw [List.getLast?_append] at hy
    simp at hy
    subst hy
    rcases List.mem_append.1 hm with hm | hm
    · exact (List.pairwise_append.1 hp).2.2 c hm d (by simp)
    · obtain rfl : c = d := by simpa using hm
      exact Int.le_refl _
/-- From the last good sheet of its head to a bad one no tick is safe. -/
theorem bad_unsafe {G : Sh → Bool} {l : List Sh} {i : Nat} {fr T : Int} (hs : shsB l = true) (hi : i < l.length) (hg : G l[i] = false) (hf : ∀ j (hj : j < l.length), j < i → G l[j] = true → l[j].hd = l[i].hd → l[j].tk ≤ fr) (h1 : fr ≤ T) (h2 : T ≤ l[i].tk) : sfK (ofH l[i].hd (cksL G l)) T = false := by
  have ha : AscK (ofH l[i].hd (cksL G l)) := ofH_asc (shs_asc hs)
  have hx := mem_ofH (G := G) hi rfl
  rw [sfK_of]
  cases hlo : loK2 (ofH l[i].hd (cksL G l)) T with
  | none => rfl
  | some x =>
    cases hhi : hiK2 (ofH l[i].hd (cksL G l)) T with
    | none => rfl
    | some y =>
      simp only [Bool.and_eq_false_iff]
      by_cases e : T = l[i].tk
      · left
        have hxm : x ∈ ofH l[i].hd (cksL G l) := (List.mem_filter.1 (List.mem_of_getLast? hlo)).1
        have hxt : x.tk ≤ T := by simpa using (List.mem_filter.1 (List.mem_of_getLast? hlo)).2
        obtain ⟨k, hk, g1, rfl⟩ := ofH_mem hxm
        have hge : l[i].tk ≤ l[k].tk := last_ge ha hlo hx (by show l[i].tk ≤ T; omega)
        have hki : k = i := by
          have hxt' : l[k].tk ≤ T := hxt
          rcases Nat.lt_trichotomy k i with c | c | c
          · have := bef_at hs k i hk hi c
            unfold befB at this
            simp only [Bool.or_eq_true, Bool.and_eq_true, decide_eq_true_iff] at this
            omega
          · exact c
          · have := bef_at hs i k hi hk c
            unfold befB at this
            simp only [Bool.or_eq_true, Bool.and_eq_true, decide_eq_true_iff] at this
            omega
        subst hki
        exact hg
      · right
        have hym : y ∈ ofH l[i].hd (cksL G l) := (List.mem_filter.1 (List.mem_of_head? hhi)).1
        have hyt : T < y.tk := by simpa using (List.mem_filter.1 (List.mem_of_head? hhi)).2
        obtain ⟨k, hk, g1, rfl⟩ := ofH_mem hym
        have hle : l[k].tk ≤ l[i].tk := first_le ha hhi hx (by show T < l[i].tk; omega)
        have hyt' : T < l[k].tk := hyt
        show G l[k] = false
        rcases Nat.lt_trichotomy k i with c | c | c
        · cases hgk : G l[k] with
          | false => rfl
          | true => have := hf k hk c hgk g1; omega
        · subst c; exact hg
        · have := bef_at hs i k hi hk c
          unfold befB at this
          simp only [Bool.or_eq_true, Bool.and_eq_true, decide_eq_true_iff] at this
          omega
theorem hdC_shs {n : Nm} {l : List Sh} {hd b E : Int} (hY : hdC n l hd b E = 0) : shsB l = true := by
  unfold hdC at hY
  cases h : shsB l
  · rw [h] at hY; simp at hY
  · rfl
theorem hdC_nm {n : Nm} {l : List Sh} {hd b E : Int} (hY : hdC n l hd b E = 0) : nmB n = true := by
  unfold hdC at hY
  cases h : nmB n
  · rw [h] at hY; simp at hY
  · rfl
theorem bad_held {n : Nm} {l : List Sh} {hd b E fr T : Int} {i : Nat} {m : List Pr} (hY : hdC n l hd b E = 0) (hm : ∀ t, inP m t ↔ inP (allT hdF b E (cksL (goodB n) l) (upL hd.toNat)) t) (hi : i < l.length) (hg : goodB n l[i] = false) (hh : l[i].hd ≤ hd) (hf : ∀ j (hj : j < l.length), j < i → goodB n l[j] = true → l[j].hd = l[i].hd → l[j].tk ≤ fr) (hb : b ≤ T) (hE : T < E) (h1 : fr ≤ T) (h2 : T ≤ l[i].tk) : inPB m T = true := by
  have hs : shsB l = true := hdC_shs hY
  have hr := hdC_ran hY
  have hxh : 1 ≤ l[i].hd := by
    have := shs_all hs l[i] (List.getElem_mem hi)
    unfold shB at this
    simp only [Bool.and_eq_true, inB_iff] at this
    omega
  rw [inPB_iff, hm T, held_iff hr.1, safe_iff (shs_asc hs) (by omega) (by omega)]
  refine ⟨hb, hE, ?_⟩
  unfold sfB
  rw [List.all_eq_false]
  refine ⟨l[i].hd, ?_, by rw [bad_unsafe hs hi hg hf h1 h2]; simp⟩
  unfold upL
  exact List.mem_map.2 ⟨(l[i].hd - 1).toNat, List.mem_range.2 (by omega), by omega⟩
end Go.Proofs.Ytjfakhfkbnnbcaa
