/- How many ticks in a constant bath it takes, in plain words. -/
import Derived.Test.YtedfajokiblfhaaA2
import Derived.Test.YtedfajokiblfhaaQp
namespace Go.Proofs.Ytedfajokiblfhaa

/-- The body behind n ticks in a constant bath, and its least temperature. -/
def stepN (c : Cn) (x : Bd) (b : Int) (n : Nat) : Bd := runS c x (List.replicate n b)
def coldN (c : Cn) (x : Bd) (b : Int) (n : Nat) : Int := minT (stepN c x b n).1
theorem stepN_zero (c : Cn) (x : Bd) (b : Int) : stepN c x b 0 = x := rfl
theorem stepN_succ (c : Cn) (x : Bd) (b : Int) (n : Nat) : stepN c x b (n + 1) = tickS c (stepN c x b n) b := by
  unfold stepN; rw [List.replicate_succ', runS_append]; rfl
theorem stepN_take (c : Cn) (x : Bd) (b : Int) {n k : Nat} (h : k ≤ n) : runS c x ((List.replicate n b).take k) = stepN c x b k := by
  unfold stepN; rw [List.take_replicate, Nat.min_eq_left h]
theorem stepN_warm {c : Cn} {x : Bd} {b : Int} (hc : c.Ok) (hx : Warm c x) (h1 : -50000 ≤ b) (h2 : b ≤ 200000) (n : Nat) : Warm c (stepN c x b n) :=
  hx.run hc (fun t ht => by obtain rfl := (List.mem_replicate.1 ht).2; exact ⟨h1, h2⟩)
/-- The first number, from n, that serves. -/
def firstN (P : Nat → Bool) : Nat → Nat → Option Nat
  | 0, _ => none
  | f + 1, n => if P n then some n else firstN P f (n + 1)
theorem firstN_some {P : Nat → Bool} {k : Nat} (hk : P k = true) : ∀ f n, n ≤ k → k < n + f → (∀ m, n ≤ m → m < k → P m = false) → firstN P f n = some k
  | 0, n, h1, h2, _ => by omega
  | f + 1, n, h1, h2, h3 => by
    unfold firstN
    by_cases e : n = k
    · subst e; rw [if_pos hk]
    · rw [if_neg (by rw [h3 n (Nat.le_refl _) (by omega)]; exact Bool.false_ne_true)]
      exact firstN_some hk f (n + 1) (by omega) (by omega) (fun m hm => h3 m (by omega))
theorem firstN_none {P : Nat → Bool} : ∀ f n, (∀ m, n ≤ m → m < n + f → P m = false) → firstN P f n = none
  | 0, _, _ => rfl
  | f + 1, n, h => by
    unfold firstN
    rw [if_neg (by rw [h n (Nat.le_refl _) (by omega)]; exact Bool.false_ne_true)]
    exact firstN_none f (n + 1) (fun m hm hm2 => h m (by omega) (by omega))
theorem firstN_spec {P : Nat → Bool} {k : Nat} : ∀ f n, firstN P f n = some k → n ≤ k ∧ k < n + f ∧ P k = true ∧ ∀ m, n ≤ m → m < k → P m = false
  | 0, _, h => by cases h
  | f + 1, n, h => by
    unfold firstN at h
    by_cases e : P n = true
    · rw [if_pos e] at h
      cases h
      exact ⟨Nat.le_refl _, by omega, e, fun m h1 h2 => by omega⟩
    · rw [if_neg e] at h
      obtain ⟨h1, h2, h3, h4⟩ := firstN_spec f (n + 1) h
      refine ⟨by omega, by omega, h3, fun m g1 g2 => ?_⟩
      by_cases em : m = n
      · subst em; simpa using e
      · exact h4 m (by omega) g2
/-- Until's answer where nothing is wrong. -/
def untV (c : Cn) (x : Bd) (b t : Int) : Int × Int := match firstN (fun n => decide (t ≤ coldN c x b n)) 2001 0 with | some n => ((n : Int), 0) | none => (0, 8)
theorem untV_at {c : Cn} {x : Bd} {b t : Int} {n : Nat} (hn : n ≤ 2000) (h : t ≤ coldN c x b n) (hb : ∀ m, m < n → ¬ t ≤ coldN c x b m) : untV c x b t = ((n : Int), 0) := by
  unfold untV
  rw [firstN_some (k := n) (by exact decide_eq_true h) 2001 0 (Nat.zero_le _) (by omega) (fun m _ hm => decide_eq_false (hb m hm))]
theorem untV_none {c : Cn} {x : Bd} {b t : Int} (hb : ∀ m, m < 2001 → ¬ t ≤ coldN c x b m) : untV c x b t = (0, 8) := by
  unfold untV
  rw [firstN_none 2001 0 (fun m _ hm => decide_eq_false (hb m (by omega)))]
theorem untV_ok {c : Cn} {x : Bd} {b t : Int} (h : (untV c x b t).2 = 0) : ∃ n : Nat, n ≤ 2000 ∧ untV c x b t = ((n : Int), 0) ∧ t ≤ coldN c x b n ∧ ∀ m, m < n → ¬ t ≤ coldN c x b m := by
  unfold untV at h ⊢
  cases hf : firstN (fun n => decide (t ≤ coldN c x b n)) 2001 0 with
  | none => rw [hf] at h; simp at h
  | some n =>
    obtain ⟨_, h2, h3, h4⟩ := firstN_spec _ _ hf
    exact ⟨n, by omega, rfl, by simpa using h3, fun m hm => by simpa using h4 m (Nat.zero_le _) hm⟩
/-- Until's answer, with its errors. -/
def untO (r l a b k a2 b2 : Int) (x : Bd) (bath t : Int) : Int × Int :=
  if bothB r l a b k a2 b2 x.1 x.2 then (if okT bath && okT t then untV ⟨r.toNat, l.toNat, a, b, k, a2, b2⟩ x bath t else (0, 7)) else (0, 1)
theorem untO_can {r l a b k a2 b2 : Int} {x : Bd} {bath t : Int} (h : bothB r l a b k a2 b2 x.1 x.2 = false) : untO r l a b k a2 b2 x bath t = (0, 1) := by unfold untO; rw [h]; rfl
theorem untO_far {r l a b k a2 b2 : Int} {x : Bd} {bath t : Int} (h : bothB r l a b k a2 b2 x.1 x.2 = true) (h2 : (okT bath && okT t) = false) : untO r l a b k a2 b2 x bath t = (0, 7) := by unfold untO; rw [h, h2]; rfl
theorem untO_ok {c : Cn} {x : Bd} {bath t : Int} (h : bothB c.R c.L c.A c.B c.K c.A2 c.B2 x.1 x.2 = true) (h2 : (okT bath && okT t) = true) : untO c.R c.L c.A c.B c.K c.A2 c.B2 x bath t = untV c x bath t := by
  unfold untO; rw [if_pos h, if_pos h2]
  simp
end Go.Proofs.Ytedfajokiblfhaa
