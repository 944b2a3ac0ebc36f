/- Texts of this seat, one behind the other. -/
import Derived.Test.YtihbjimnjhfpeaaGreatG37
import Derived.Test.YtihbjimnjhfpeaaGreatG22
import Derived.Laws.OwnMore
/- Walks of Part of both: contracts. -/
namespace Go.Proofs.YtihbjimnjhfpeaaGreat.Rt
open Go.RowKit

/-- What Part answers. -/
def PartV (m : Nat) (p : Nat → St) (n : Nat) (r : Nat → Rd) (st a b c : Int) : Prop :=
  (recB m p n r = false ∧ a = 0 ∧ b = 0 ∧ c = 1) ∨ (recB m p n r = true ∧ inB st 0 ((m : Int) - 1) = false ∧ a = 0 ∧ b = 0 ∧ c = 7) ∨
  (recB m p n r = true ∧ inB st 0 ((m : Int) - 1) = true ∧ ∃ f t : Nat, PartP n r st f t ∧ (f = t ∧ a = 0 ∧ b = 0 ∧ c = 8 ∨ f ≠ t ∧ a = f ∧ b = t ∧ c = 0))
def PartE (m : Nat) (p : Nat → St) (n : Nat) (r : Nat → Rd) (st : Int) (w : World) (e : Ending) (w' : World) : Prop :=
  ∃ a b c : Int, e = .returned (.tuple #[.int .i64 a, .int .i64 b, .int .i64 c]) ∧ PartV m p n r st a b c ∧ Below w.heap.size w w'
theorem PartV.one {m : Nat} {p : Nat → St} {n : Nat} {r : Nat → Rd} {st a b c a2 b2 c2 : Int} (h : PartV m p n r st a b c) (g : PartV m p n r st a2 b2 c2) : a = a2 ∧ b = b2 ∧ c = c2 := by
  rcases h with ⟨h1, rfl, rfl, rfl⟩ | ⟨h1, h2, rfl, rfl, rfl⟩ | ⟨h1, h2, f, t, h3, h4⟩ <;> rcases g with ⟨g1, rfl, rfl, rfl⟩ | ⟨g1, g2, rfl, rfl, rfl⟩ | ⟨g1, g2, f2, t2, g3, g4⟩
  all_goals first
    | exact ⟨rfl, rfl, rfl⟩
    | (rw [h1] at g1; cases g1; done)
    | (rw [h2] at g2; cases g2; done)
    | skip
  obtain ⟨rfl, rfl⟩ := h3.one g3
  rcases h4 with ⟨h5, rfl, rfl, rfl⟩ | ⟨h5, rfl, rfl, rfl⟩ <;> rcases g4 with ⟨g5, rfl, rfl, rfl⟩ | ⟨g5, rfl, rfl, rfl⟩
  · exact ⟨rfl, rfl, rfl⟩
  · exact absurd h5 g5
  · exact absurd g5 h5
  · exact ⟨rfl, rfl, rfl⟩
theorem mono_of {n : Nat} {s : Nat → Int} (h : ∀ j, j + 1 < n → s j ≤ s (j + 1)) : ∀ i j, i ≤ j → j < n → s i ≤ s j := by
  intro i j
  induction j with
  | zero => intro h1 _; have : i = 0 := by omega
            subst this; omega
  | succ j ih =>
    intro h1 h2
    rcases Nat.lt_or_ge i (j + 1) with h3 | h3
    · have := ih (by omega) (by omega); have := h j h2; omega
    · have : i = j + 1 := by omega
      subst this; omega
theorem rec_mono {m : Nat} {p : Nat → St} {n : Nat} {r : Nat → Rd} (h : recB m p n r = true) : n ≤ 2000 ∧ ∀ i j, i ≤ j → j < n → (r i).s ≤ (r j).s := by
  unfold recB at h
  simp only [Bool.and_eq_true, decide_eq_true_eq] at h
  refine ⟨h.1.2, mono_of (s := fun j => (r j).s) fun j hj => ?_⟩
  have h1 := allB_iff.1 h.2 (j + 1) hj
  rw [recAt_eq, Bool.and_eq_true, inB_iff] at h1
  exact h1.1.1
theorem found_low {n : Nat} {r : Nat → Rd} {st : Int} {q : Nat} (hm : ∀ i j, i ≤ j → j < n → (r i).s ≤ (r j).s) (h : FoundB n (fun m => decide (st ≤ (r m).s)) q) : ∀ j, j < q → (r j).s < st := by
  intro j hj
  obtain ⟨h1, h2, _⟩ := h
  rcases h2 with h2 | h2
  · omega
  · have := hm j (q - 1) (by omega) (by omega)
    simp only [decide_eq_false_iff_not] at h2
    omega
theorem found_high {n : Nat} {r : Nat → Rd} {st : Int} {q : Nat} (hm : ∀ i j, i ≤ j → j < n → (r i).s ≤ (r j).s) (h : FoundB n (fun m => decide (st ≤ (r m).s)) q) : ∀ j, q ≤ j → j < n → st ≤ (r j).s := by
  intro j hj hn
  obtain ⟨h1, _, h3⟩ := h
  rcases h3 with h3 | h3
  · omega
  · have := hm q j hj hn
    simp only [decide_eq_true_eq] at h3
    omega
theorem part_none {n : Nat} {r : Nat → Rd} {st : Int} {q1 q2 : Nat} (hm : ∀ i j, i ≤ j → j < n → (r i).s ≤ (r j).s) (h : FoundB n (fun m => decide (st ≤ (r m).s)) q1) (g : FoundB n (fun m => decide (st + 1 ≤ (r m).s)) q2) (e : q1 = q2) : PartP n r st n n := by
  subst e
  refine ⟨Nat.le_refl _, Nat.le_refl _, fun j hj => ?_, .inl rfl, fun j h1 h2 => absurd h1 (Nat.not_le.2 h2), .inl rfl⟩
  rcases Nat.lt_or_ge j q1 with h1 | h1
  · have := found_low hm h j h1; omega
  · have := found_high hm g j h1 hj; omega
theorem part_some {n : Nat} {r : Nat → Rd} {st : Int} {q1 q2 : Nat} (hm : ∀ i j, i ≤ j → j < n → (r i).s ≤ (r j).s) (h : FoundB n (fun m => decide (st ≤ (r m).s)) q1) (g : FoundB n (fun m => decide (st + 1 ≤ (r m).s)) q2) (e : q1 ≠ q2) : PartP n r st q1 q2 := by
  have h1 := h.1
  have g1 := g.1
  have hle : q1 < q2 := by
    rcases Nat.lt_trichotomy q1 q2 with h3 | h3 | h3
    · exact h3
    · exact absurd h3 e
    · have := found_low hm h q2 h3
      have := found_high hm g q2 (Nat.le_refl _) (by omega)
      omega
  have hmid : ∀ j, q1 ≤ j → j < q2 → (r j).s = st := fun j h3 h4 => by
    have := found_high hm h j h3 (by omega)
    have := found_low hm g j h4
    omega
  refine ⟨by omega, g1, fun j hj => ?_, .inr (hmid q1 (Nat.le_refl _) hle), hmid, ?_⟩
  · have := found_low hm h j hj; omega
  · rcases Nat.lt_or_ge q2 n with h3 | h3
    · refine .inr ?_
      have := found_high hm g q2 (Nat.le_refl _) h3
      omega
    · exact .inl (by omega)
end Go.Proofs.YtihbjimnjhfpeaaGreat.Rt

/- Plain facts of deviations: the list behind k readings, and what it says of each reading; own lists of triples. -/
namespace Go.Proofs.YtihbjimnjhfpeaaGreat.Rt
open Go.RowKit

/-- A reading of a cook that was too cold. -/
def coldB (p : Nat → St) (x : Rd) : Bool := decide ((p x.s.toNat).k = 3) && decide (x.t < (p x.s.toNat).s)
/-- The deviations behind a reading that is too cold. -/
def devPut (r : Nat → Rd) (l : List Tri) (k : Nat) : List Tri :=
  match l.getLast? with
  | some d => if d.y = (k : Int) ∧ (r (k - 1)).s = (r k).s then l.dropLast ++ [⟨d.x, (k : Int) + 1, min d.z (r k).t⟩] else l ++ [⟨k, (k : Int) + 1, (r k).t⟩]
  | none => [⟨k, (k : Int) + 1, (r k).t⟩]
/-- The deviations of the first k readings. -/
def devL (p : Nat → St) (r : Nat → Rd) : Nat → List Tri
  | 0 => []
  | k + 1 => if coldB p (r k) then devPut r (devL p r k) k else devL p r k
theorem dev_no {p : Nat → St} {r : Nat → Rd} {k : Nat} (h : coldB p (r k) = false) : devL p r (k + 1) = devL p r k := by rw [devL, h]; rfl
theorem dev_first {p : Nat → St} {r : Nat → Rd} {k : Nat} (h : coldB p (r k) = true) (hl : devL p r k = []) : devL p r (k + 1) = [⟨k, (k : Int) + 1, (r k).t⟩] := by rw [devL, h, hl]; rfl
theorem dev_more {p : Nat → St} {r : Nat → Rd} {k : Nat} {l : List Tri} {d : Tri} (h : coldB p (r k) = true) (hl : devL p r k = l ++ [d]) (h1 : d.y = (k : Int)) (h2 : (r (k - 1)).s = (r k).s) : devL p r (k + 1) = l ++ [⟨d.x, (k : Int) + 1, min d.z (r k).t⟩] := by
  rw [devL, h, hl]; simp [devPut, h1, h2]
theorem dev_next {p : Nat → St} {r : Nat → Rd} {k : Nat} {l : List Tri} {d : Tri} (h : coldB p (r k) = true) (hl : devL p r k = l ++ [d]) (h1 : ¬ (d.y = (k : Int) ∧ (r (k - 1)).s = (r k).s)) : devL p r (k + 1) = l ++ [d] ++ [⟨k, (k : Int) + 1, (r k).t⟩] := by
  rw [devL, h, hl]; simp only [if_true, devPut, List.getLast?_append, List.getLast?_singleton, Option.some_or]; rw [if_neg h1]
theorem last_or (l : List Tri) : l = [] ∨ ∃ l0 d, l = l0 ++ [d] := by
  rcases List.eq_nil_or_concat l with h | ⟨a, b, h⟩
  · exact .inl h
  · exact .inr ⟨a, b, by simpa using h⟩
/-- What the deviations say. -/
structure DevOk (p : Nat → St) (r : Nat → Rd) (k : Nat) (l : List Tri) : Prop where
  ord : l.Pairwise fun a b => a.y ≤ b.x
  span : ∀ d ∈ l, 0 ≤ d.x ∧ d.x < d.y ∧ d.y ≤ (k : Int)
  cold : ∀ d ∈ l, ∀ j : Nat, d.x ≤ (j : Int) → (j : Int) < d.y → coldB p (r j) = true ∧ d.z ≤ (r j).t
  all : ∀ j, j < k → coldB p (r j) = true → ∃ d ∈ l, d.x ≤ (j : Int) ∧ (j : Int) < d.y
  few : l.length ≤ k
theorem dev_ok (p : Nat → St) (r : Nat → Rd) : ∀ k, DevOk p r k (devL p r k)
  | 0 => ⟨List.Pairwise.nil, fun d h => by simp [devL] at h, fun d h => by simp [devL] at h, fun j h => absurd h (Nat.not_lt_zero j), by simp [devL]⟩
  | k + 1 => by
    have ih := dev_ok p r k
    cases hc : coldB p (r k)
    · rw [dev_no hc]
      refine ⟨ih.ord, fun d hd => ?_, ih.cold, fun j hj hj2 => ?_, Nat.le_succ_of_le ih.few⟩
      · obtain ⟨h1, h2, h3⟩ := ih.span d hd
        exact ⟨h1, h2, by omega⟩
      · rcases Nat.lt_succ_iff_lt_or_eq.1 hj with h | rfl
        · exact ih.all j h hj2
        · rw [hc] at hj2; cases hj2
    · have hnew : DevOk p r (k + 1) (devL p r k ++ [⟨k, (k : Int) + 1, (r k).t⟩]) := by
        refine ⟨List.pairwise_append.2 ⟨ih.ord, List.pairwise_singleton _ _, fun a ha b hb => ?_⟩, fun d hd => ?_, fun d hd j h1 h2 => ?_, fun j hj hj2 => ?_, ?_⟩
        · simp only [List.mem_singleton] at hb
          subst hb
          exact (ih.span a ha).2.2
        · rcases List.mem_append.1 hd with h | h
          · obtain ⟨h1, h2, h3⟩ := ih.span d h
            exact ⟨h1, h2, by omega⟩
          · simp only [List.mem_singleton] at h
            subst h
            refine ⟨?_, ?_, ?_⟩ <;> simp only <;> omega
        · rcases List.mem_append.1 hd with h | h
          · exact ih.cold d h j h1 h2
          · simp only [List.mem_singleton] at h
            subst h
            simp only at h1 h2
            obtain rfl : j = k := by omega
            exact ⟨hc, Int.le_refl _⟩
        · rcases Nat.lt_succ_iff_lt_or_eq.1 hj with h | rfl
          · obtain ⟨d, hd, h1⟩ := ih.all j h hj2
            exact ⟨d, List.mem_append.2 (.inl hd), h1⟩
          · exact ⟨_, List.mem_append.2 (.inr (List.mem_singleton.2 rfl)), by simp only; omega⟩
        · have := ih.few
          simp only [List.length_append, List.length_singleton]; omega
      rcases last_or (devL p r k) with hl | ⟨l0, d, hl⟩
      · rw [dev_first hc hl]
        rw [hl] at hnew
        exact hnew
      · by_cases h1 : d.y = (k : Int) ∧ (r (k - 1)).s = (r k).s
        · rw [dev_more hc hl h1.1 h1.2]
          rw [hl] at ih
          obtain ⟨hy, _⟩ := h1
          have hpw := List.pairwise_append.1 ih.ord
          obtain ⟨hs1, hs2, hs3⟩ := ih.span d (by simp)
          refine ⟨List.pairwise_append.2 ⟨hpw.1, List.pairwise_singleton _ _, fun a ha b hb => ?_⟩, fun e he => ?_, fun e he j g1 g2 => ?_, fun j hj hj2 => ?_, ?_⟩
          · simp only [List.mem_singleton] at hb
            subst hb
            exact hpw.2.2 a ha d (List.mem_singleton.2 rfl)
          · rcases List.mem_append.1 he with h | h
            · obtain ⟨h1, h2, h3⟩ := ih.span e (List.mem_append.2 (.inl h))
              exact ⟨h1, h2, by omega⟩
            · simp only [List.mem_singleton] at h
              subst h
              refine ⟨?_, ?_, ?_⟩ <;> simp only <;> omega
          · rcases List.mem_append.1 he with h | h
            · exact ih.cold e (List.mem_append.2 (.inl h)) j g1 g2
            · simp only [List.mem_singleton] at h
              subst h
              simp only at g1 g2 ⊢
              rcases Int.lt_or_le (j : Int) k with h3 | h3
              · obtain ⟨q1, q2⟩ := ih.cold d (by simp) j g1 (by omega)
                exact ⟨q1, by omega⟩
              · obtain rfl : j = k := by omega
                exact ⟨hc, by omega⟩
          · rcases Nat.lt_succ_iff_lt_or_eq.1 hj with h | rfl
            · obtain ⟨e, he, q1, q2⟩ := ih.all j h hj2
              rcases List.mem_append.1 he with h4 | h4
              · exact ⟨e, List.mem_append.2 (.inl h4), q1, q2⟩
              · simp only [List.mem_singleton] at h4
                subst h4
                exact ⟨_, List.mem_append.2 (.inr (List.mem_singleton.2 rfl)), by simp only; omega⟩
            · exact ⟨_, List.mem_append.2 (.inr (List.mem_singleton.2 rfl)), by simp only; omega⟩
          · have := ih.few
            simp only [List.length_append, List.length_singleton] at this ⊢; omega
        · rw [dev_next hc hl h1]
          rw [hl] at hnew
          exact hnew
/-- The cells of a list of triples. -/
def tvs : List Tri → List Value
  | [] => []
  | d :: l => .int .i64 d.x :: .int .i64 d.y :: .int .i64 d.z :: tvs l
theorem tvs_len : ∀ l : List Tri, (tvs l).length = l.length * 3
  | [] => rfl
  | d :: l => by simp only [tvs, List.length_cons, tvs_len l]; omega
theorem tvs_app : ∀ l m : List Tri, tvs (l ++ m) = tvs l ++ tvs m
  | [], m => rfl
  | d :: l, m => by simp only [tvs, List.cons_append, tvs_app l m]
theorem tvs_at : ∀ (l : List Tri) (j : Nat) (h : j < l.length), (tvs l)[j * 3]? = some (.int .i64 l[j].x) ∧ (tvs l)[j * 3 + 1]? = some (.int .i64 l[j].y) ∧ (tvs l)[j * 3 + 2]? = some (.int .i64 l[j].z)
  | d :: l, 0, _ => by simp [tvs]
  | d :: l, j + 1, h => by
    have ih := tvs_at l j (by simpa using h)
    have e : (j + 1) * 3 = j * 3 + 1 + 1 + 1 := by omega
    rw [e]
    simpa [tvs] using ih
theorem tvs_last {l : List Tri} {d : Tri} : tvs (l ++ [d]) = tvs l ++ [.int .i64 d.x, .int .i64 d.y, .int .i64 d.z] := by rw [tvs_app]; rfl
theorem tvs_set1 {l : List Tri} {d : Tri} (v : Int) : (tvs (l ++ [d])).set (l.length * 3 + 1) (.int .i64 v) = tvs (l ++ [⟨d.x, v, d.z⟩]) := by
  rw [tvs_last, tvs_last, ← tvs_len l, List.set_append_right _ _ (by omega), Nat.add_sub_cancel_left]; rfl
theorem tvs_set2 {l : List Tri} {d : Tri} (v : Int) : (tvs (l ++ [d])).set (l.length * 3 + 2) (.int .i64 v) = tvs (l ++ [⟨d.x, d.y, v⟩]) := by
  rw [tvs_last, tvs_last, ← tvs_len l, List.set_append_right _ _ (by omega), Nat.add_sub_cancel_left]; rfl
end Go.Proofs.YtihbjimnjhfpeaaGreat.Rt
