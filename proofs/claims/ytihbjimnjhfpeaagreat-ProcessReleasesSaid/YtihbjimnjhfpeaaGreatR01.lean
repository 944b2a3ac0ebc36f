/- Texts of this seat, one behind the other. -/
import Derived.Test.YtihbjimnjhfpeaaGreatRows
import Derived.WalkKit
import Derived.WalkSpells
import Derived.WalkLawsBesides
import Derived.BigQuiet
import Derived.Deep.QuietTactic
import Derived.Deep.RegionHeld3
import Derived.StillTailTactics
import Derived.Deep.RegionWith
/- Plain math of a can's ticks. -/
namespace Go.Proofs.YtihbjimnjhfpeaaGreat

/-- A can that is valid: the numbers of its rings and layers are plain. -/
structure Cn where
  R : Nat
  L : Nat
  A : Int
  B : Int
  K : Int
  A2 : Int
  B2 : Int
def conB (a b : Int) : Bool := (decide (0 ≤ a) && decide (a ≤ 500)) && ((decide (0 ≤ b) && decide (b ≤ 500)) && (decide (1 ≤ a + b) && decide (a + b ≤ 500)))
def brkB (k a b : Int) : Bool := if k = 0 then decide (a = 0) && decide (b = 0) else (decide (1 ≤ k) && decide (k ≤ 200000)) && conB a b
def canB (r l a b k a2 b2 : Int) : Bool := (decide (1 ≤ r) && decide (r ≤ 6)) && ((decide (1 ≤ l) && decide (l ≤ 8)) && (conB a b && brkB k a2 b2))
/-- What makes a can valid. -/
structure Cn.Ok (c : Cn) : Prop where
  r1 : 1 ≤ c.R
  r2 : c.R ≤ 6
  l1 : 1 ≤ c.L
  l2 : c.L ≤ 8
  a1 : 0 ≤ c.A
  b1 : 0 ≤ c.B
  ab1 : 1 ≤ c.A + c.B
  ab : c.A + c.B ≤ 500
  a3 : 0 ≤ c.A2
  b3 : 0 ≤ c.B2
  ab3 : c.A2 + c.B2 ≤ 500
  k1 : 0 ≤ c.K
  k2 : c.K ≤ 200000
theorem conB_iff {a b : Int} : conB a b = true ↔ 0 ≤ a ∧ a ≤ 500 ∧ 0 ≤ b ∧ b ≤ 500 ∧ 1 ≤ a + b ∧ a + b ≤ 500 := by
  simp only [conB, Bool.and_eq_true, decide_eq_true_eq]
  omega
theorem brkB_true {k a b : Int} (h : brkB k a b = true) : (k = 0 ∧ a = 0 ∧ b = 0) ∨ (1 ≤ k ∧ k ≤ 200000 ∧ 0 ≤ a ∧ 0 ≤ b ∧ 1 ≤ a + b ∧ a + b ≤ 500) := by
  unfold brkB at h
  split at h
  · simp at h; omega
  · rw [Bool.and_eq_true, conB_iff, Bool.and_eq_true, decide_eq_true_eq, decide_eq_true_eq] at h; omega
def Cn.V (c : Cn) : Prop := canB c.R c.L c.A c.B c.K c.A2 c.B2 = true
theorem Cn.V.ok {c : Cn} (h : c.V) : c.Ok := by
  simp only [Cn.V, canB, Bool.and_eq_true, decide_eq_true_eq, conB_iff] at h
  obtain ⟨⟨r1, r2⟩, ⟨l1, l2⟩, h2, h3⟩ := h
  have h4 := brkB_true h3
  refine ⟨?_, ?_, ?_, ?_, ?_, ?_, ?_, ?_, ?_, ?_, ?_, ?_, ?_⟩ <;> omega
theorem canB_cn {r l a b k a2 b2 : Int} (h : canB r l a b k a2 b2 = true) : ∃ c : Cn, c.V ∧ r = c.R ∧ l = c.L ∧ a = c.A ∧ b = c.B ∧ k = c.K ∧ a2 = c.A2 ∧ b2 = c.B2 := by
  have h' := h
  simp only [canB, Bool.and_eq_true, decide_eq_true_eq] at h
  obtain ⟨⟨r1, r2⟩, ⟨l1, l2⟩, _⟩ := h
  obtain ⟨R, rfl⟩ := Int.eq_ofNat_of_zero_le (show 0 ≤ r by omega)
  obtain ⟨L, rfl⟩ := Int.eq_ofNat_of_zero_le (show 0 ≤ l by omega)
  exact ⟨⟨R, L, a, b, k, a2, b2⟩, h', rfl, rfl, rfl, rfl, rfl, rfl, rfl⟩
/-- The number of its places. -/
def Cn.P (c : Cn) : Nat := c.R * c.L
theorem Cn.P_int (c : Cn) : ((c.P : Nat) : Int) = (c.R : Int) * c.L := by unfold Cn.P; rw [Int.natCast_mul]
theorem Cn.Ok.p {c : Cn} (h : c.Ok) : 1 ≤ c.P ∧ c.P ≤ 48 := ⟨Nat.mul_le_mul h.r1 h.l1, Nat.mul_le_mul h.r2 h.l2⟩
def okT (t : Int) : Bool := decide (-50000 ≤ t) && decide (t ≤ 200000)
def okL (l : List Int) : Bool := l.all okT
theorem okL_all {l : List Int} (h : okL l = true) (k : Nat) (hk : k < l.length) : okT l[k] = true := List.all_eq_true.1 h _ (List.getElem_mem hk)
theorem okL_bd {l : List Int} (h : okL l = true) : ∀ t ∈ l, -50000 ≤ t ∧ t ≤ 200000 := fun t ht => by
  have := List.all_eq_true.1 h t ht
  simpa [okT] using this
theorem okL_of {l : List Int} (h : ∀ t ∈ l, -50000 ≤ t ∧ t ≤ 200000) : okL l = true := List.all_eq_true.2 fun t ht => by simpa [okT] using h t ht
theorem okL_end {l : List Int} {k : Nat} (h : ∀ j (hj : j < l.length), j < k → okT l[j] = true) (hk : k = l.length) : okL l = true := by
  subst hk
  refine List.all_eq_true.2 fun x hx => ?_
  obtain ⟨j, hj, rfl⟩ := List.getElem_of_mem hx
  exact h j hj hj
theorem okL_bad {l : List Int} {k : Nat} (hk : k < l.length) (h : okT l[k] = false) : okL l = false := by
  cases ho : okL l with
  | false => rfl
  | true => rw [okL_all ho k hk] at h; cases h
/-- A body that is valid for a can (v: the can is). -/
def bodyB (v : Bool) (r l k : Int) (T : List Int) (br : Bool) : Bool := v && (decide ((T.length : Int) = r * l) && (!(br && decide (k = 0)) && okL T))
theorem bodyB_len {r l k : Int} {T : List Int} {br : Bool} (h : (T.length : Int) ≠ r * l) : bodyB true r l k T br = false := by unfold bodyB; rw [decide_eq_false h]; rfl
theorem bodyB_brk {r l k : Int} {T : List Int} (h : k = 0) : bodyB true r l k T true = false := by unfold bodyB; rw [decide_eq_true h]; simp
theorem bodyB_rest {r l k : Int} {T : List Int} {br : Bool} (h : (T.length : Int) = r * l) (hk : br = false ∨ k ≠ 0) : bodyB true r l k T br = okL T := by
  unfold bodyB
  rw [decide_eq_true h]
  rcases hk with rfl | hk
  · simp
  · rw [decide_eq_false hk]; simp

/-- What a place's new temperature is a thousandth of a width of. -/
def num (A B : Int) (r : Nat) (x1 x2 x3 x4 x5 : Int) : Int := 2 * A * (r * x1 + (r + 1) * x2) + (2 * r + 1) * (B * (x3 + x4) + (1000 - 2 * A - 2 * B) * x5)
theorem num_sub (A B : Int) (r : Nat) (x1 x2 x3 x4 x5 y1 y2 y3 y4 y5 : Int) : num A B r (y1 - x1) (y2 - x2) (y3 - x3) (y4 - x4) (y5 - x5) = num A B r y1 y2 y3 y4 y5 - num A B r x1 x2 x3 x4 x5 := by
  unfold num; grind
theorem num_const (A B : Int) (r : Nat) (x : Int) : num A B r x x x x x = x * (1000 * (2 * r + 1)) := by
  unfold num; grind
theorem num_nonneg {A B : Int} (r : Nat) {x1 x2 x3 x4 x5 : Int} (hA : 0 ≤ A) (hB : 0 ≤ B) (hAB : A + B ≤ 500) (h1 : 0 ≤ x1) (h2 : 0 ≤ x2) (h3 : 0 ≤ x3) (h4 : 0 ≤ x4) (h5 : 0 ≤ x5) : 0 ≤ num A B r x1 x2 x3 x4 x5 := by
  unfold num
  have a1 : 0 ≤ (r : Int) * x1 := Int.mul_nonneg (by omega) h1
  have a2 : 0 ≤ ((r : Int) + 1) * x2 := Int.mul_nonneg (by omega) h2
  have a3 : 0 ≤ 2 * A * ((r : Int) * x1 + (r + 1) * x2) := Int.mul_nonneg (by omega) (by omega)
  have a4 : 0 ≤ B * (x3 + x4) := Int.mul_nonneg hB (by omega)
  have a5 : 0 ≤ (1000 - 2 * A - 2 * B) * x5 := Int.mul_nonneg (by omega) h5
  have a6 : 0 ≤ (2 * (r : Int) + 1) * (B * (x3 + x4) + (1000 - 2 * A - 2 * B) * x5) := Int.mul_nonneg (by omega) (by omega)
  omega
theorem num_mono {A B : Int} (r : Nat) {x1 x2 x3 x4 x5 y1 y2 y3 y4 y5 : Int} (hA : 0 ≤ A) (hB : 0 ≤ B) (hAB : A + B ≤ 500) (h1 : x1 ≤ y1) (h2 : x2 ≤ y2) (h3 : x3 ≤ y3) (h4 : x4 ≤ y4) (h5 : x5 ≤ y5) : num A B r x1 x2 x3 x4 x5 ≤ num A B r y1 y2 y3 y4 y5 := by
  have h := num_nonneg r (x1 := y1 - x1) (x2 := y2 - x2) (x3 := y3 - x3) (x4 := y4 - x4) (x5 := y5 - x5) hA hB hAB (by omega) (by omega) (by omega) (by omega) (by omega)
  rw [num_sub] at h
  omega

/-- The temperature at a ring and a layer: the bath's where there is none. -/
def nearT (R L : Nat) (T : List Int) (b : Int) (r l : Int) : Int := if 0 ≤ r ∧ r < R ∧ 0 ≤ l ∧ l < L then T.getD (l * R + r).toNat 0 else b
/-- What becomes of a place in a tick. -/
def mixT (R L : Nat) (A B : Int) (T : List Int) (b : Int) (r l : Nat) : Int :=
  num A B r (nearT R L T b ((r : Int) - 1) l) (nearT R L T b (r + 1) l) (nearT R L T b r ((l : Int) - 1)) (nearT R L T b r (l + 1)) (nearT R L T b r l) / (1000 * (2 * r + 1))
/-- The temperatures after a tick. -/
def tickT (R L : Nat) (A B : Int) (T : List Int) (b : Int) : List Int := (List.range (R * L)).map fun i => mixT R L A B T b (i % R) (i / R)
theorem tickT_len (R L : Nat) (A B : Int) (T : List Int) (b : Int) : (tickT R L A B T b).length = R * L := by simp [tickT]
theorem tickT_get (R L : Nat) (A B : Int) (T : List Int) (b : Int) (i : Nat) (h : i < (tickT R L A B T b).length) : (tickT R L A B T b)[i] = mixT R L A B T b (i % R) (i / R) := by simp [tickT]

theorem getD_at {T : List Int} {i : Nat} (h : i < T.length) : T.getD i 0 = T[i] := by simp [List.getD, h]
theorem idx_lt {R L r l : Nat} (hr : r < R) (hl : l < L) : l * R + r < R * L := by
  have h := Nat.mul_le_mul_right R (show l + 1 ≤ L by omega)
  rw [Nat.succ_mul] at h
  rw [Nat.mul_comm R L]
  omega
theorem nearT_in {R L : Nat} {T : List Int} {b r l : Int} (h : 0 ≤ r ∧ r < R ∧ 0 ≤ l ∧ l < L) : nearT R L T b r l = T.getD (l * R + r).toNat 0 := if_pos h
theorem nearT_out {R L : Nat} {T : List Int} {b r l : Int} (h : ¬ (0 ≤ r ∧ r < R ∧ 0 ≤ l ∧ l < L)) : nearT R L T b r l = b := if_neg h
theorem idx_nat {R L : Nat} {r l : Int} (h : 0 ≤ r ∧ r < R ∧ 0 ≤ l ∧ l < L) : ∃ p q : Nat, r = p ∧ l = q ∧ p < R ∧ q < L ∧ (l * R + r).toNat = q * R + p := by
  obtain ⟨h1, h2, h3, h4⟩ := h
  obtain ⟨p, rfl⟩ := Int.eq_ofNat_of_zero_le h1
  obtain ⟨q, rfl⟩ := Int.eq_ofNat_of_zero_le h3
  exact ⟨p, q, rfl, rfl, by omega, by omega, by rw [← Int.natCast_mul, ← Int.natCast_add, Int.toNat_natCast]⟩
theorem nearT_bd {R L : Nat} {T : List Int} {b lo hi : Int} (r l : Int) (hlen : T.length = R * L) (hT : ∀ x ∈ T, lo ≤ x ∧ x ≤ hi) (hb : lo ≤ b ∧ b ≤ hi) : lo ≤ nearT R L T b r l ∧ nearT R L T b r l ≤ hi := by
  by_cases h : 0 ≤ r ∧ r < R ∧ 0 ≤ l ∧ l < L
  · rw [nearT_in h]
    obtain ⟨p, q, rfl, rfl, hp, hq, e⟩ := idx_nat h
    have hi := idx_lt hp hq
    rw [e, getD_at (by omega)]
    exact hT _ (List.getElem_mem _)
  · rw [nearT_out h]; exact hb
theorem nearT_le {R L : Nat} {T U : List Int} {b d : Int} (r l : Int) (h1 : T.length = R * L) (h2 : U.length = R * L) (h : ∀ i (a : i < T.length) (c : i < U.length), T[i] ≤ U[i]) (hb : b ≤ d) : nearT R L T b r l ≤ nearT R L U d r l := by
  by_cases g : 0 ≤ r ∧ r < R ∧ 0 ≤ l ∧ l < L
  · rw [nearT_in g, nearT_in g]
    obtain ⟨p, q, rfl, rfl, hp, hq, e⟩ := idx_nat g
    have hi := idx_lt hp hq
    rw [e, getD_at (by omega), getD_at (by omega)]
    exact h _ _ _
  · rw [nearT_out g, nearT_out g]; exact hb
theorem wide_pos (r : Nat) : (0 : Int) < 1000 * (2 * r + 1) := by omega
theorem mixT_bd {R L : Nat} {A B : Int} {T : List Int} {b lo hi : Int} (r l : Nat) (hA : 0 ≤ A) (hB : 0 ≤ B) (hAB : A + B ≤ 500) (hlen : T.length = R * L) (hT : ∀ x ∈ T, lo ≤ x ∧ x ≤ hi) (hb : lo ≤ b ∧ b ≤ hi) : lo ≤ mixT R L A B T b r l ∧ mixT R L A B T b r l ≤ hi := by
  have n1 := nearT_bd (r - 1 : Int) l hlen hT hb
  have n2 := nearT_bd (r + 1 : Int) l hlen hT hb
  have n3 := nearT_bd (r : Int) (l - 1 : Int) hlen hT hb
  have n4 := nearT_bd (r : Int) (l + 1 : Int) hlen hT hb
  have n5 := nearT_bd (r : Int) (l : Int) hlen hT hb
  have m1 := num_mono r hA hB hAB n1.1 n2.1 n3.1 n4.1 n5.1
  have m2 := num_mono r hA hB hAB n1.2 n2.2 n3.2 n4.2 n5.2
  rw [num_const] at m1 m2
  unfold mixT
  exact ⟨Int.le_ediv_of_mul_le (wide_pos r) m1, by
    have := Int.ediv_le_ediv (wide_pos r) m2
    rwa [Int.mul_ediv_cancel _ (by have := wide_pos r; omega)] at this⟩
theorem mixT_le {R L : Nat} {A B : Int} {T U : List Int} {b d : Int} (r l : Nat) (hA : 0 ≤ A) (hB : 0 ≤ B) (hAB : A + B ≤ 500) (h1 : T.length = R * L) (h2 : U.length = R * L) (h : ∀ i (a : i < T.length) (c : i < U.length), T[i] ≤ U[i]) (hb : b ≤ d) : mixT R L A B T b r l ≤ mixT R L A B U d r l := by
  unfold mixT
  exact Int.ediv_le_ediv (wide_pos r) (num_mono r hA hB hAB (nearT_le _ _ h1 h2 h hb) (nearT_le _ _ h1 h2 h hb) (nearT_le _ _ h1 h2 h hb) (nearT_le _ _ h1 h2 h hb) (nearT_le _ _ h1 h2 h hb))
theorem tickT_bd {R L : Nat} {A B : Int} {T : List Int} {b lo hi : Int} (hA : 0 ≤ A) (hB : 0 ≤ B) (hAB : A + B ≤ 500) (hlen : T.length = R * L) (hT : ∀ x ∈ T, lo ≤ x ∧ x ≤ hi) (hb : lo ≤ b ∧ b ≤ hi) : ∀ x ∈ tickT R L A B T b, lo ≤ x ∧ x ≤ hi := by
  intro x hx
  simp only [tickT, List.mem_map] at hx
  obtain ⟨i, _, rfl⟩ := hx
  exact mixT_bd _ _ hA hB hAB hlen hT hb
theorem tickT_le {R L : Nat} {A B : Int} {T U : List Int} {b d : Int} (hA : 0 ≤ A) (hB : 0 ≤ B) (hAB : A + B ≤ 500) (h1 : T.length = R * L) (h2 : U.length = R * L) (h : ∀ i (a : i < T.length) (c : i < U.length), T[i] ≤ U[i]) (hb : b ≤ d) :
    ∀ i (a : i < (tickT R L A B T b).length) (c : i < (tickT R L A B U d).length), (tickT R L A B T b)[i] ≤ (tickT R L A B U d)[i] := by
  intro i a c
  rw [tickT_get, tickT_get]
  exact mixT_le _ _ hA hB hAB h1 h2 h hb
/-- The first of the foremost places among the first k, and its temperature. -/
def bestT (lt : Int → Int → Bool) (T : List Int) : Nat → Nat × Int
  | 0 => (0, T.getD 0 0)
  | k + 1 => if lt (T.getD k 0) (bestT lt T k).2 then (k, T.getD k 0) else bestT lt T k
theorem bestT_at (lt : Int → Int → Bool) (T : List Int) (k : Nat) (hk : k ≤ T.length) (h0 : 0 < T.length) : (bestT lt T k).1 < T.length ∧ T.getD (bestT lt T k).1 0 = (bestT lt T k).2 := by
  induction k with
  | zero => exact ⟨h0, rfl⟩
  | succ k ih =>
    unfold bestT
    split
    · exact ⟨by dsimp only; omega, rfl⟩
    · exact ih (by omega)
def ltB (a b : Int) : Bool := decide (a < b)
def gtB (a b : Int) : Bool := decide (b < a)
/-- The least temperature. -/
def minT (T : List Int) : Int := (bestT ltB T T.length).2
theorem minT_mem (T : List Int) (h0 : 0 < T.length) : minT T ∈ T := by
  obtain ⟨h1, h2⟩ := bestT_at ltB T T.length (Nat.le_refl _) h0
  unfold minT
  rw [← h2, getD_at h1]
  exact List.getElem_mem _

/-- A body: its temperatures, and whether it is broken. -/
abbrev Bd := List Int × Bool
/-- Whether it is broken behind a tick that made T. -/
def brk (K : Int) (br : Bool) (T : List Int) : Bool := br || (decide (0 < K) && decide (K ≤ minT T))
def Cn.a (c : Cn) (br : Bool) : Int := if br then c.A2 else c.A
def Cn.b (c : Cn) (br : Bool) : Int := if br then c.B2 else c.B
/-- A tick. -/
def tickS (c : Cn) (x : Bd) (bath : Int) : Bd := (tickT c.R c.L (c.a x.2) (c.b x.2) x.1 bath, brk c.K x.2 (tickT c.R c.L (c.a x.2) (c.b x.2) x.1 bath))
/-- The body behind some ticks. -/
def runS (c : Cn) (x : Bd) (l : List Int) : Bd := l.foldl (tickS c) x
theorem runS_append (c : Cn) (x : Bd) (l m : List Int) : runS c x (l ++ m) = runS c (runS c x l) m := List.foldl_append
theorem runS_succ (c : Cn) (x : Bd) (l : List Int) (k : Nat) (hk : k < l.length) : runS c x (l.take (k + 1)) = tickS c (runS c x (l.take k)) l[k] := by
  rw [List.take_add_one, runS_append]
  simp [hk, runS]
/-- The body has a temperature for each place, each in its range. -/
structure Warm (c : Cn) (x : Bd) : Prop where
  len : x.1.length = c.R * c.L
  bd : ∀ t ∈ x.1, -50000 ≤ t ∧ t ≤ 200000
theorem Cn.Ok.ra {c : Cn} (h : c.Ok) (br : Bool) : 0 ≤ c.a br ∧ 0 ≤ c.b br ∧ c.a br + c.b br ≤ 500 := by
  have := h.a1; have := h.b1; have := h.ab; have := h.a3; have := h.b3; have := h.ab3
  cases br <;> simp [Cn.a, Cn.b] <;> omega
theorem Warm.tick {c : Cn} {x : Bd} {b : Int} (hc : c.Ok) (h : Warm c x) (h1 : -50000 ≤ b) (h2 : b ≤ 200000) : Warm c (tickS c x b) := by
  obtain ⟨a1, a2, a3⟩ := hc.ra x.2
  exact ⟨tickT_len _ _ _ _ _ _, tickT_bd a1 a2 a3 h.len h.bd ⟨h1, h2⟩⟩
theorem Warm.run {c : Cn} {x : Bd} {l : List Int} (hc : c.Ok) (h : Warm c x) (hl : ∀ b ∈ l, -50000 ≤ b ∧ b ≤ 200000) : Warm c (runS c x l) := by
  induction l generalizing x with
  | nil => exact h
  | cons b l ih =>
    have hb := hl b (List.mem_cons_self)
    exact ih (h.tick hc hb.1 hb.2) (fun d hd => hl d (List.mem_cons_of_mem _ hd))
end Go.Proofs.YtihbjimnjhfpeaaGreat

/- Small tools of these proofs. -/
namespace Go.Proofs.YtihbjimnjhfpeaaGreat
open Go.RowKit

theorem hid {p : Prop} (h : p) : Hid p := h
theorem ret_bool {a b : Bool} (h : a = b) : Ending.returned (.bool a) = .returned (.bool b) := by rw [h]
theorem ret_int {k : IntKind} {a b : Int} (h : a = b) : Ending.returned (.int k a) = .returned (.int k b) := by rw [h]
theorem int_eq {k : IntKind} {a b : Int} (h : a = b) : Value.int k a = .int k b := by rw [h]
theorem bcell {W w1 : World} (hb : Below W.heap.size W w1) : (∀ b o, b < W.heap.size → w1.cell? ⟨b, o, none⟩ = W.cell? ⟨b, o, none⟩) ∧ (∀ b o, b < W.heap.size → w1.frozen? ⟨b, o, none⟩ = W.frozen? ⟨b, o, none⟩) :=
  ⟨fun b o h => hb.cell (p := ⟨b, o, none⟩) h, fun b o h => hb.frozen (p := ⟨b, o, none⟩) h⟩
theorem balloc {w w1 : World} {o : Obj} (hb : Below (w.alloc o).heap.size (w.alloc o) w1) : Below w.heap.size w w1 :=
  ((Below.refl _ _).alloc (Nat.le_refl _) _).trans (hb.mono (by simp))
theorem bdrewN {B : Nat} {w w1 : World} {n : Nat} (h : Below B w w1) : Below B w (w1.drewN n) := ⟨h.os, h.tape, h.output, h.size, h.block⟩
theorem cell_alloc_new (w : World) (cs : Array Value) (T : TypeId) (fz : Nat × Nat) (i : Nat) : (w.alloc (.cells cs T fz)).cell? ⟨w.heap.size, i, none⟩ = cs[i]? := by
  unfold World.cell?
  show (match (w.alloc (.cells cs T fz)).heap[w.heap.size]? with | some (.cells c _ _) => _ | _ => _) = _
  rw [heap_alloc_new]
  rfl
theorem alloc_size (w : World) (o : Obj) : (w.alloc o).heap.size = w.heap.size + 1 := by simp
theorem keep_cell {W w2 : World} {b i : Nat} {v : Value} (hb : Below W.heap.size W w2) (h : W.cell? ⟨b, i, none⟩ = some v) : w2.cell? ⟨b, i, none⟩ = some v :=
  (hb.cell (p := ⟨b, i, none⟩) (World.block_lt_of_cell? W ⟨b, i, none⟩ h)).trans h
/-- A slice of ints that is read, from any place of a row. -/
def RowI (w : World) (v : Value) (l : List Int) : Prop := (∃ a cap, v = .slice a 0 cap ∧ l = []) ∨ ∃ b o cap, v = .slice (some ⟨b, o, none⟩) l.length cap ∧ l.length ≤ maxLen ∧ ∀ k (h : k < l.length), w.cell? ⟨b, o + k, none⟩ = some (.int .i64 l[k])
theorem RowI.keep {W w2 : World} {v : Value} {l : List Int} (h : RowI W v l) (hb : Below W.heap.size W w2) : RowI w2 v l := by
  rcases h with h | ⟨b, o, cap, hv, hm, hc⟩
  · exact .inl h
  · exact .inr ⟨b, o, cap, hv, hm, fun k hk => keep_cell hb (hc k hk)⟩
theorem RowI.shape {w : World} {v : Value} {l : List Int} (h : RowI w v l) : ∃ a cap, v = .slice a l.length cap := by
  rcases h with ⟨_, _, rfl, rfl⟩ | ⟨b, o, cap, rfl, _, _⟩
  · exact ⟨_, _, rfl⟩
  · exact ⟨_, _, rfl⟩
theorem RowI.form {w : World} {v : Value} {l : List Int} (h : RowI w v l) : ∃ a b o cap, v = .slice a l.length cap ∧ (l = [] ∨ a = some ⟨b, o, none⟩) ∧ (∀ j (h : j < l.length), w.cell? ⟨b, o + j, none⟩ = some (.int .i64 l[j])) ∧ (l ≠ [] → b < w.heap.size) := by
  rcases h with ⟨a, cap, rfl, rfl⟩ | ⟨b, o, cap, rfl, hm, hc⟩
  · exact ⟨a, 0, 0, cap, rfl, .inl rfl, fun j h => absurd h (Nat.not_lt_zero _), fun h => absurd rfl h⟩
  · refine ⟨_, b, o, cap, rfl, .inr rfl, hc, fun h => ?_⟩
    have h0 : 0 < l.length := List.length_pos_iff.2 h
    exact World.block_lt_of_cell? w ⟨b, o + 0, none⟩ (hc 0 h0)
theorem bstep {A : Nat} {w w1 w2 : World} (h : Below A w w1) (hs : A ≤ w1.heap.size) (k : Below w1.heap.size w1 w2) : Below A w w2 := h.trans (k.mono hs)
/-- What two boxes behind one another hold. -/
structure Box2 (w w1 : World) (A B : Array Value) : Prop where
  fst : ∀ i, w1.cell? ⟨w.heap.size, i, none⟩ = A[i]?
  snd : ∀ i, w1.cell? ⟨w.heap.size + 1, i, none⟩ = B[i]?
  sz : w.heap.size + 1 < w1.heap.size
  low : Below w.heap.size w w1
theorem box2_start {w : World} {A B : Array Value} {T T' : TypeId} {fz fz' : Nat × Nat} : Box2 w ((w.alloc (.cells A T fz)).alloc (.cells B T' fz')) A B := by
  refine ⟨fun i => ?_, fun i => ?_, by simp, ((Below.refl _ _).alloc (Nat.le_refl _) _).alloc (by simp) _⟩
  · have h := (bcell ((Below.refl _ (w.alloc (.cells A T fz))).alloc (Nat.le_refl _) (.cells B T' fz'))).1 w.heap.size i (by simp)
    rw [h, cell_alloc_new]
  · have h := cell_alloc_new (w.alloc (.cells A T fz)) B T' fz' i
    rwa [alloc_size] at h
theorem Box2.keep {w w1 w2 : World} {A B : Array Value} (h : Box2 w w1 A B) (hb : Below w1.heap.size w1 w2) : Box2 w w2 A B :=
  ⟨fun i => ((bcell hb).1 _ _ (Nat.lt_of_succ_lt h.sz)).trans (h.fst i), fun i => ((bcell hb).1 _ _ h.sz).trans (h.snd i), Nat.lt_of_lt_of_le h.sz hb.size, bstep h.low h.low.size hb⟩
theorem Box2.can {w w1 : World} {c0 c1 c2 c3 c4 c5 c6 : Value} {B : Array Value} (h : Box2 w w1 #[c0, c1, c2, c3, c4, c5, c6] B) :
    w1.cell? ⟨w.heap.size, 0, none⟩ = some c0 ∧ w1.cell? ⟨w.heap.size, 1, none⟩ = some c1 ∧ w1.cell? ⟨w.heap.size, 2, none⟩ = some c2 ∧ w1.cell? ⟨w.heap.size, 3, none⟩ = some c3 ∧ w1.cell? ⟨w.heap.size, 4, none⟩ = some c4 ∧ w1.cell? ⟨w.heap.size, 5, none⟩ = some c5 ∧ w1.cell? ⟨w.heap.size, 6, none⟩ = some c6 :=
  ⟨h.fst 0, h.fst 1, h.fst 2, h.fst 3, h.fst 4, h.fst 5, h.fst 6⟩
theorem Box2.body {w w1 : World} {A : Array Value} {d0 d1 : Value} (h : Box2 w w1 A #[d0, d1]) :
    w1.cell? ⟨w.heap.size + 1, 0, none⟩ = some d0 ∧ w1.cell? ⟨w.heap.size + 1, 1, none⟩ = some d1 := ⟨h.snd 0, h.snd 1⟩
/-- What one box holds. -/
structure Box1 (w w1 : World) (A : Array Value) : Prop where
  fst : ∀ i, w1.cell? ⟨w.heap.size, i, none⟩ = A[i]?
  sz : w.heap.size < w1.heap.size
  low : Below w.heap.size w w1
theorem box1_start {w : World} {A : Array Value} {T : TypeId} {fz : Nat × Nat} : Box1 w (w.alloc (.cells A T fz)) A :=
  ⟨fun i => cell_alloc_new w A T fz i, by simp, (Below.refl _ _).alloc (Nat.le_refl _) _⟩
theorem Box1.keep {w w1 w2 : World} {A : Array Value} (h : Box1 w w1 A) (hb : Below w1.heap.size w1 w2) : Box1 w w2 A :=
  ⟨fun i => ((bcell hb).1 _ _ h.sz).trans (h.fst i), Nat.lt_of_lt_of_le h.sz hb.size, bstep h.low h.low.size hb⟩
theorem box1_call {w w1 : World} {A : Array Value} {T : TypeId} {fz : Nat × Nat} (hb : Below (w.alloc (.cells A T fz)).heap.size (w.alloc (.cells A T fz)) w1) : Box1 w w1 A := box1_start.keep hb
theorem Box1.can {w w1 : World} {c0 c1 c2 c3 c4 c5 c6 : Value} (h : Box1 w w1 #[c0, c1, c2, c3, c4, c5, c6]) :
    w1.cell? ⟨w.heap.size, 0, none⟩ = some c0 ∧ w1.cell? ⟨w.heap.size, 1, none⟩ = some c1 ∧ w1.cell? ⟨w.heap.size, 2, none⟩ = some c2 ∧ w1.cell? ⟨w.heap.size, 3, none⟩ = some c3 ∧ w1.cell? ⟨w.heap.size, 4, none⟩ = some c4 ∧ w1.cell? ⟨w.heap.size, 5, none⟩ = some c5 ∧ w1.cell? ⟨w.heap.size, 6, none⟩ = some c6 :=
  ⟨h.fst 0, h.fst 1, h.fst 2, h.fst 3, h.fst 4, h.fst 5, h.fst 6⟩
/-- Nine cells: a can's box and a body's behind it. -/
def Nine (b : Nat) (w w1 : World) (c0 c1 c2 c3 c4 c5 c6 d0 d1 : Value) : Prop :=
  w1.cell? ⟨b, 0, none⟩ = some c0 ∧ w1.cell? ⟨b, 1, none⟩ = some c1 ∧ w1.cell? ⟨b, 2, none⟩ = some c2 ∧ w1.cell? ⟨b, 3, none⟩ = some c3 ∧ w1.cell? ⟨b, 4, none⟩ = some c4 ∧ w1.cell? ⟨b, 5, none⟩ = some c5 ∧ w1.cell? ⟨b, 6, none⟩ = some c6 ∧
    w1.cell? ⟨b + 1, 0, none⟩ = some d0 ∧ w1.cell? ⟨b + 1, 1, none⟩ = some d1 ∧ b + 1 < w1.heap.size ∧ Below w.heap.size w w1
theorem nine_start {w : World} {c0 c1 c2 c3 c4 c5 c6 d0 d1 : Value} {T T' : TypeId} {fz fz' : Nat × Nat} : Nine w.heap.size w ((w.alloc (.cells #[c0, c1, c2, c3, c4, c5, c6] T fz)).alloc (.cells #[d0, d1] T' fz')) c0 c1 c2 c3 c4 c5 c6 d0 d1 := by
  have h := box2_start (w := w) (A := #[c0, c1, c2, c3, c4, c5, c6]) (B := #[d0, d1]) (T := T) (T' := T') (fz := fz) (fz' := fz')
  exact ⟨h.fst 0, h.fst 1, h.fst 2, h.fst 3, h.fst 4, h.fst 5, h.fst 6, h.snd 0, h.snd 1, h.sz, h.low⟩
theorem nine_keep {b : Nat} {w W w2 : World} {c0 c1 c2 c3 c4 c5 c6 d0 d1 : Value} (hb : Below W.heap.size W w2) (h : Nine b w W c0 c1 c2 c3 c4 c5 c6 d0 d1) : Nine b w w2 c0 c1 c2 c3 c4 c5 c6 d0 d1 := by
  obtain ⟨h0, h1, h2, h3, h4, h5, h6, h7, h8, h9, h10⟩ := h
  exact ⟨keep_cell hb h0, keep_cell hb h1, keep_cell hb h2, keep_cell hb h3, keep_cell hb h4, keep_cell hb h5, keep_cell hb h6, keep_cell hb h7, keep_cell hb h8, Nat.lt_of_lt_of_le h9 hb.size, bstep h10 h10.size hb⟩
end Go.Proofs.YtihbjimnjhfpeaaGreat

/- Walks of heat's small tests of a can, and of the reference's: contracts. -/
namespace Go.Proofs.YtihbjimnjhfpeaaGreat
open Go.RowKit

set_option maxHeartbeats 400000 in
theorem within_any (a b c : Int) (w : World) :
    Calls Tryz.prog 105 #[.int .i64 a, .int .i64 b, .int .i64 c] w fun e w' => e = .returned (.bool (decide (b ≤ a) && decide (a ≤ c))) ∧ w = w' := by
  by_cases h : b ≤ a
  · have hd : decide (b ≤ a) = true := by simpa using h
    go_enter Tryz.func105, Tryz.ntmps105
    go_wp2
    go_ret
    exact ⟨by simp [h], rfl⟩
  · have hd : decide (b ≤ a) = false := by simpa using h
    go_enter Tryz.func105, Tryz.ntmps105
    go_wp2
    go_ret
    exact ⟨by simp, rfl⟩
set_option maxHeartbeats 400000 in
theorem rwithin_any (a b c : Int) (w : World) :
    Calls Tryz.prog 58 #[.int .i64 a, .int .i64 b, .int .i64 c] w fun e w' => e = .returned (.bool (decide (b ≤ a) && decide (a ≤ c))) ∧ w = w' := by
  by_cases h : b ≤ a
  · have hd : decide (b ≤ a) = true := by simpa using h
    go_enter Tryz.func58, Tryz.ntmps58
    go_wp2
    go_ret
    exact ⟨by simp [h], rfl⟩
  · have hd : decide (b ≤ a) = false := by simpa using h
    go_enter Tryz.func58, Tryz.ntmps58
    go_wp2
    go_ret
    exact ⟨by simp, rfl⟩
theorem con_no1 {a b : Int} (h : (decide (0 ≤ a) && decide (a ≤ 500)) = false) : conB a b = false := by unfold conB; rw [h]; rfl
theorem con_no2 {a b : Int} (h : (decide (0 ≤ b) && decide (b ≤ 500)) = false) : conB a b = false := by unfold conB; rw [h]; simp
theorem con_yes {a b : Int} (h : (decide (0 ≤ a) && decide (a ≤ 500)) = true) (g : (decide (0 ≤ b) && decide (b ≤ 500)) = true) : conB a b = (decide (1 ≤ a + b) && decide (a + b ≤ 500)) := by unfold conB; rw [h, g]; rfl
set_option maxHeartbeats 1000000 in
theorem conducts_any (a b : Int) (w : World) :
    Calls Tryz.prog 106 #[.int .i64 a, .int .i64 b] w fun e w' => e = .returned (.bool (conB a b)) ∧ w = w' := by
  cases h1 : (decide (0 ≤ a) && decide (a ≤ 500))
  · have hc := hid (con_no1 (b := b) h1)
    go_enter Tryz.func106, Tryz.ntmps106
    go_wp2_with (go_at_call 105; refine (within_any _ _ _ _).mono ?_; rintro e w' ⟨rfl, rfl⟩)
    go_ret
    exact ⟨ret_bool hc.out.symm, rfl⟩
  cases h2 : (decide (0 ≤ b) && decide (b ≤ 500))
  · have hc := hid (con_no2 (a := a) h2)
    go_enter Tryz.func106, Tryz.ntmps106
    go_wp2_with (go_at_call 105; refine (within_any _ _ _ _).mono ?_; rintro e w' ⟨rfl, rfl⟩)
    go_ret
    exact ⟨ret_bool hc.out.symm, rfl⟩
  have hc := hid (con_yes h1 h2)
  have ha : 0 ≤ a ∧ a ≤ 500 := by simpa using h1
  have hb : 0 ≤ b ∧ b ≤ 500 := by simpa using h2
  obtain ⟨a1, a2⟩ := ha
  obtain ⟨b1, b2⟩ := hb
  go_enter Tryz.func106, Tryz.ntmps106
  go_wp2_with (go_at_call 105; refine (within_any _ _ _ _).mono ?_; rintro e w' ⟨rfl, rfl⟩)
  go_ret
  exact ⟨ret_bool hc.out.symm, rfl⟩
theorem brk_zero (a b : Int) : brkB 0 a b = (decide (a = 0) && decide (b = 0)) := rfl
theorem brk_some {k a b : Int} (h : k ≠ 0) : brkB k a b = ((decide (1 ≤ k) && decide (k ≤ 200000)) && conB a b) := by unfold brkB; rw [if_neg h]
theorem beq_dec (a : Int) : (a == 0) = decide (a = 0) := by by_cases h : a = 0 <;> simp [h]
set_option maxHeartbeats 1000000 in
theorem vbreak_any (r l a b k a2 b2 : Int) (w : World) : Calls Tryz.prog 107 #[.agg #[.int .i64 r, .int .i64 l, .int .i64 a, .int .i64 b, .int .i64 k, .int .i64 a2, .int .i64 b2]] w fun e w' => e = .returned (.bool (brkB k a2 b2)) ∧ Below w.heap.size w w' := by
  by_cases hk : k = 0
  · subst hk
    have hc := hid (brk_zero a2 b2)
    cases h1 : (a2 == 0)
    · rw [beq_dec] at h1
      have hc' := hid (show brkB 0 a2 b2 = false by rw [brk_zero, h1]; rfl)
      have h1' : (a2 == 0) = false := by rw [beq_dec]; exact h1
      go_enter Tryz.func107, Tryz.ntmps107
      go_wp2
      go_ret
      exact ⟨ret_bool hc'.out.symm, (Below.refl _ _).alloc (Nat.le_refl _) _⟩
    · have h2 := hid (show brkB 0 a2 b2 = (b2 == 0) by rw [brk_zero, ← beq_dec, ← beq_dec, h1]; rfl)
      go_enter Tryz.func107, Tryz.ntmps107
      go_wp2
      go_ret
      exact ⟨ret_bool h2.out.symm, (Below.refl _ _).alloc (Nat.le_refl _) _⟩
  · have hc := hid (brk_some (a := a2) (b := b2) hk)
    have hk' : (k == 0) = false := by simpa using hk
    cases h1 : (decide (1 ≤ k) && decide (k ≤ 200000))
    · go_enter Tryz.func107, Tryz.ntmps107
      go_wp2_with (first | (go_at_call 105; refine (within_any _ _ _ _).mono ?_; rintro e w' ⟨rfl, rfl⟩) | (go_at_call 106; refine (conducts_any _ _ _).mono ?_; rintro e w' ⟨rfl, rfl⟩))
      go_ret
      exact ⟨ret_bool (by rw [hc.out, h1]; rfl), (Below.refl _ _).alloc (Nat.le_refl _) _⟩
    · go_enter Tryz.func107, Tryz.ntmps107
      go_wp2_with (first | (go_at_call 105; refine (within_any _ _ _ _).mono ?_; rintro e w' ⟨rfl, rfl⟩) | (go_at_call 106; refine (conducts_any _ _ _).mono ?_; rintro e w' ⟨rfl, rfl⟩))
      go_ret
      exact ⟨ret_bool (by rw [hc.out, h1]; rfl), (Below.refl _ _).alloc (Nat.le_refl _) _⟩

theorem can_eq (r l a b k a2 b2 : Int) : canB r l a b k a2 b2 = ((decide (1 ≤ r) && decide (r ≤ 6)) && ((decide (1 ≤ l) && decide (l ≤ 8)) && (conB a b && brkB k a2 b2))) := rfl
theorem four (a b c _d : Bool) : a = false ∨ (a = true ∧ b = false) ∨ (a = true ∧ b = true ∧ c = false) ∨ (a = true ∧ b = true ∧ c = true) := by
  cases a <;> cases b <;> cases c <;> simp
set_option maxHeartbeats 2000000 in
theorem vcan_any (r l a b k a2 b2 : Int) (w : World) : Calls Tryz.prog 66 #[.agg #[.int .i64 r, .int .i64 l, .int .i64 a, .int .i64 b, .int .i64 k, .int .i64 a2, .int .i64 b2]] w fun e w' => e = .returned (.bool (canB r l a b k a2 b2)) ∧ Below w.heap.size w w' := by
  have hc := hid (can_eq r l a b k a2 b2)
  rcases four (decide (1 ≤ r) && decide (r ≤ 6)) (decide (1 ≤ l) && decide (l ≤ 8)) (conB a b) true with h1 | ⟨h1, h2⟩ | ⟨h1, h2, h3⟩ | ⟨h1, h2, h3⟩
  all_goals
    go_enter Tryz.func66, Tryz.ntmps66
    go_wp2_with (first | (go_at_call 105; refine (within_any _ _ _ _).mono ?_; rintro e w' ⟨rfl, rfl⟩) | (go_at_call 106; refine (conducts_any _ _ _).mono ?_; rintro e w' ⟨rfl, rfl⟩) | (go_at_call 107; refine (vbreak_any _ _ _ _ _ _ _ _).mono ?_; rintro e w' ⟨rfl, hb⟩))
    go_ret
    exact ⟨ret_bool (by rw [hc.out]; simp only [Bool.false_and, Bool.true_and, *]), by first | exact (Below.refl _ _).alloc (Nat.le_refl _) _ | exact balloc hb⟩
end Go.Proofs.YtihbjimnjhfpeaaGreat

/- Walks of temperatures, Places, Stirred, ValidBody of both: contracts. -/
namespace Go.Proofs.YtihbjimnjhfpeaaGreat
open Go.RowKit

set_option maxHeartbeats 2000000 in
theorem temps_any (w : World) (v : Value) (l : List Int) (hl : RowI w v l) :
    Calls Tryz.prog 149 #[v] w fun e w' => e = .returned (.bool (okL l)) ∧ w = w' := by
  rcases hl with ⟨a0, c0, rfl, rfl⟩ | ⟨b, o, cap, rfl, hm, hc⟩
  · go_enter Tryz.func149, Tryz.ntmps149
    go_wp2
    refine wp_loop_rounds 1 ?_
    rw [rounds_succ]
    go_wp2
    go_ret
    exact ⟨rfl, rfl⟩
  · have HC := hid hc; clear hc
    unfold maxLen at hm
    go_enter Tryz.func149, Tryz.ntmps149
    go_wp2
    go_loop [7] (fun i => ∃ k : Nat, k ≤ l.length ∧ i = .int .i64 (k : Int) ∧ Hid (∀ j (hj : j < l.length), j < k → okT l[j] = true)) (fun i => l.length - (intOf i).toNat)
    case atStart => exact ⟨0, Nat.zero_le _, rfl, fun j _ h => absurd h (Nat.not_lt_zero _)⟩
    case round =>
      obtain ⟨k, hk, rfl, hok⟩ := hrel
      by_cases hlt : k < l.length
      · have ex := HC.out k hlt
        have hlt' : (k : Int) < l.length := by omega
        cases ho : okT l[k]
        · have hE := hid (okL_bad hlt ho)
          generalize l[k] = x at ex ho
          change (decide (-50000 ≤ x) && decide (x ≤ 200000)) = false at ho
          go_wp2_with (go_at_call 105; refine (within_any _ _ _ _).mono ?_; rintro e w' ⟨rfl, rfl⟩)
          go_ret
          exact ⟨by rw [hE.out]; rfl, rfl⟩
        · have hst : Hid (∀ j (hj : j < l.length), j < k + 1 → okT l[j] = true) := fun j hj h => by
            rcases Nat.lt_or_ge j k with h1 | h1
            · exact hok.out j hj h1
            · obtain rfl : j = k := by omega
              exact ho
          generalize l[k] = x at ex ho
          change (decide (-50000 ≤ x) && decide (x ≤ 200000)) = true at ho
          go_wp2_with (go_at_call 105; refine (within_any _ _ _ _).mono ?_; rintro e w' ⟨rfl, rfl⟩)
          go_round
          case rel => exact ⟨k + 1, by omega, by go_num, hst⟩
          case measure => simp [intOf]; omega
      · obtain rfl : k = l.length := by omega
        have hE := hid (okL_end hok.out rfl)
        go_wp2
        go_ret
        exact ⟨by rw [hE.out]; rfl, rfl⟩

theorem Cn.Ok.mul {c : Cn} (h : c.Ok) : 1 ≤ (c.R : Int) * c.L ∧ (c.R : Int) * c.L ≤ 48 := by
  have := h.p
  rw [← c.P_int]
  omega
set_option maxHeartbeats 1000000 in
theorem places_yes (c : Cn) (w : World) (hv : c.V) : Calls Tryz.prog 150 #[.agg #[.int .i64 (c.R : Int), .int .i64 (c.L : Int), .int .i64 c.A, .int .i64 c.B, .int .i64 c.K, .int .i64 c.A2, .int .i64 c.B2]] w fun e w' => e = .returned (.int .i64 (c.P : Nat)) ∧ Below w.heap.size w w' := by
  obtain ⟨p1, p2⟩ := hv.ok.mul
  have HP := hid c.P_int
  unfold Cn.V at hv
  go_enter Tryz.func150, Tryz.ntmps150
  go_wp2_with (go_at_call 66; refine (vcan_any _ _ _ _ _ _ _ _).mono ?_; rintro e w1 ⟨rfl, hb⟩; have BX := hid (box1_call hb); obtain ⟨b0, b1, b2', b3, b4, b5, b6⟩ := BX.out.can; have hz := BX.out.sz; clear hb)
  go_ret
  exact ⟨ret_int HP.out.symm, BX.out.low⟩

set_option maxHeartbeats 4000000 in
theorem vbody_can (r l a b k a2 b2 : Int) (w : World) (v : Value) (T : List Int) (br : Bool) (hl : RowI w v T) (hv : canB r l a b k a2 b2 = false) :
    Calls Tryz.prog 177 #[.agg #[.int .i64 r, .int .i64 l, .int .i64 a, .int .i64 b, .int .i64 k, .int .i64 a2, .int .i64 b2], .agg #[v, .bool br]] w fun e w' => e = .returned (.bool false) ∧ Below w.heap.size w w' := by
  obtain ⟨a0, cap, rfl⟩ := hl.shape
  clear hl
  obtain ⟨b0, b1, b2', b3, b4, b5, b6, x0, x1, hz, hB⟩ := nine_start (w := w) (c0 := .int .i64 r) (c1 := .int .i64 l) (c2 := .int .i64 a) (c3 := .int .i64 b) (c4 := .int .i64 k) (c5 := .int .i64 a2) (c6 := .int .i64 b2) (d0 := .slice a0 T.length cap) (d1 := .bool br) (T := 23) (T' := 87) (fz := (0, 0)) (fz' := (0, 0))
  go_enter Tryz.func177, Tryz.ntmps177
  go_wp2_with fail
  first
    | go_region_with (go_at_call 66; refine (vcan_any _ _ _ _ _ _ _ _).mono ?_; rintro e w1 ⟨rfl, hb⟩; have hz1 := bstep hB.drew hB.size hb; clear hb)
    | fail
  all_goals
    go_wp2
    go_ret
    exact ⟨rfl, hz1⟩
/-- The body is valid for a valid can. -/
def bodyV (c : Cn) (T : List Int) (br : Bool) : Bool := bodyB true c.R c.L c.K T br
theorem bodyV_len {c : Cn} {T : List Int} {br : Bool} (h : T.length ≠ c.P) : bodyV c T br = false := bodyB_len (by rw [← c.P_int]; omega)
theorem bodyV_brk {c : Cn} {T : List Int} (h : c.K = 0) : bodyV c T true = false := bodyB_brk h
theorem bodyV_rest {c : Cn} {T : List Int} {br : Bool} (h : T.length = c.P) (hk : br = false ∨ c.K ≠ 0) : bodyV c T br = okL T := bodyB_rest (by rw [← c.P_int]; omega) hk
theorem bodyV_iff {c : Cn} {T : List Int} {br : Bool} : bodyV c T br = true ↔ T.length = c.P ∧ (br = false ∨ c.K ≠ 0) ∧ okL T = true := by
  by_cases h : T.length = c.P
  · by_cases hk : br = false ∨ c.K ≠ 0
    · rw [bodyV_rest h hk]; exact ⟨fun g => ⟨h, hk, g⟩, fun g => g.2.2⟩
    · have hb : br = true := by cases br <;> simp_all
      have hc : c.K = 0 := Decidable.byContradiction fun g => hk (.inr g)
      subst hb
      rw [bodyV_brk hc]
      simp [hc]
  · rw [bodyV_len h]; simp [h]
set_option maxHeartbeats 4000000 in
theorem vbody_yes (c : Cn) (w : World) (v : Value) (T : List Int) (br : Bool) (hl : RowI w v T) (hv : c.V) :
    Calls Tryz.prog 177 #[.agg #[.int .i64 (c.R : Int), .int .i64 (c.L : Int), .int .i64 c.A, .int .i64 c.B, .int .i64 c.K, .int .i64 c.A2, .int .i64 c.B2], .agg #[v, .bool br]] w fun e w' => e = .returned (.bool (bodyV c T br)) ∧ Below w.heap.size w w' := by
  have hv0 := hid hv
  unfold Cn.V at hv
  have HL := hid (fun w1 (g : Below w.heap.size w w1) => hl.keep g)
  obtain ⟨a0, cap, rfl⟩ := hl.shape
  clear hl
  obtain ⟨b0, b1, b2', b3, b4, b5, b6, x0, x1, hz, hB⟩ := nine_start (w := w) (c0 := .int .i64 c.R) (c1 := .int .i64 c.L) (c2 := .int .i64 c.A) (c3 := .int .i64 c.B) (c4 := .int .i64 c.K) (c5 := .int .i64 c.A2) (c6 := .int .i64 c.B2) (d0 := .slice a0 T.length cap) (d1 := .bool br) (T := 23) (T' := 87) (fz := (0, 0)) (fz' := (0, 0))
  by_cases hlen : T.length = c.P
  · have hlen' : ((T.length : Int) == c.P) = true := by simp; omega
    have hlen2 : ((T.length : Int) != c.P) = false := by simp; omega
    by_cases hk : br = true ∧ c.K = 0
    · obtain ⟨rfl, hk⟩ := hk
      have hE := hid (bodyV_brk (T := T) hk)
      have hk' : (c.K == 0) = true := by simpa using hk
      clear hk hlen HL
      go_enter Tryz.func177, Tryz.ntmps177
      go_wp2_with fail
      first
        | go_region_held3 (fun w' => w'.cell? ⟨w.heap.size, 0, none⟩ = some (.int .i64 c.R) ∧ w'.cell? ⟨w.heap.size, 1, none⟩ = some (.int .i64 c.L) ∧ w'.cell? ⟨w.heap.size, 2, none⟩ = some (.int .i64 c.A) ∧ w'.cell? ⟨w.heap.size, 3, none⟩ = some (.int .i64 c.B) ∧ w'.cell? ⟨w.heap.size, 4, none⟩ = some (.int .i64 c.K) ∧ w'.cell? ⟨w.heap.size, 5, none⟩ = some (.int .i64 c.A2) ∧ w'.cell? ⟨w.heap.size, 6, none⟩ = some (.int .i64 c.B2) ∧ w'.cell? ⟨w.heap.size + 1, 0, none⟩ = some (.slice a0 T.length cap) ∧ w'.cell? ⟨w.heap.size + 1, 1, none⟩ = some (.bool true) ∧ w.heap.size + 1 < w'.heap.size ∧ Below w.heap.size w w') (first | exact ⟨b0, b1, b2', b3, b4, b5, b6, x0, x1, hz, hB.drew⟩ | exact nine_keep (by assumption) (by assumption)) (first | (go_at_call 66; refine (vcan_any _ _ _ _ _ _ _ _).mono ?_; rintro e w1 ⟨rfl, hb⟩) | (go_at_call 150; refine (places_yes c _ hv0.out).mono ?_; rintro e w2 ⟨rfl, hb⟩))
        | fail
      rename_i hq
      obtain ⟨b0, b1, b2', b3, b4, b5, b6, x0, x1, hz, hB⟩ := hq
      go_wp2
      go_ret
      exact ⟨ret_bool hE.out.symm, hB⟩
    · have hE := hid (bodyV_rest (br := br) hlen (by cases br <;> simp_all))
      clear hlen
      cases br
      · clear hk
        go_enter Tryz.func177, Tryz.ntmps177
        go_wp2_with fail
        first
          | go_region_held3 (fun w' => w'.cell? ⟨w.heap.size, 0, none⟩ = some (.int .i64 c.R) ∧ w'.cell? ⟨w.heap.size, 1, none⟩ = some (.int .i64 c.L) ∧ w'.cell? ⟨w.heap.size, 2, none⟩ = some (.int .i64 c.A) ∧ w'.cell? ⟨w.heap.size, 3, none⟩ = some (.int .i64 c.B) ∧ w'.cell? ⟨w.heap.size, 4, none⟩ = some (.int .i64 c.K) ∧ w'.cell? ⟨w.heap.size, 5, none⟩ = some (.int .i64 c.A2) ∧ w'.cell? ⟨w.heap.size, 6, none⟩ = some (.int .i64 c.B2) ∧ w'.cell? ⟨w.heap.size + 1, 0, none⟩ = some (.slice a0 T.length cap) ∧ w'.cell? ⟨w.heap.size + 1, 1, none⟩ = some (.bool false) ∧ w.heap.size + 1 < w'.heap.size ∧ Below w.heap.size w w') (first | exact ⟨b0, b1, b2', b3, b4, b5, b6, x0, x1, hz, hB.drew⟩ | exact nine_keep (by assumption) (by assumption)) (first | (go_at_call 66; refine (vcan_any _ _ _ _ _ _ _ _).mono ?_; rintro e w1 ⟨rfl, hb⟩) | (go_at_call 150; refine (places_yes c _ hv0.out).mono ?_; rintro e w2 ⟨rfl, hb⟩))
          | fail
        rename_i hq
        obtain ⟨b0, b1, b2', b3, b4, b5, b6, x0, x1, hz, hB⟩ := hq
        go_wp2_with (go_at_call 149; refine (temps_any _ _ T (HL.out _ hB)).mono ?_; rintro e w3 ⟨rfl, rfl⟩)
        go_ret
        exact ⟨ret_bool hE.out.symm, hB⟩
      · have hk' : (c.K == 0) = false := by simpa using hk
        clear hk
        go_enter Tryz.func177, Tryz.ntmps177
        go_wp2_with fail
        first
          | go_region_held3 (fun w' => w'.cell? ⟨w.heap.size, 0, none⟩ = some (.int .i64 c.R) ∧ w'.cell? ⟨w.heap.size, 1, none⟩ = some (.int .i64 c.L) ∧ w'.cell? ⟨w.heap.size, 2, none⟩ = some (.int .i64 c.A) ∧ w'.cell? ⟨w.heap.size, 3, none⟩ = some (.int .i64 c.B) ∧ w'.cell? ⟨w.heap.size, 4, none⟩ = some (.int .i64 c.K) ∧ w'.cell? ⟨w.heap.size, 5, none⟩ = some (.int .i64 c.A2) ∧ w'.cell? ⟨w.heap.size, 6, none⟩ = some (.int .i64 c.B2) ∧ w'.cell? ⟨w.heap.size + 1, 0, none⟩ = some (.slice a0 T.length cap) ∧ w'.cell? ⟨w.heap.size + 1, 1, none⟩ = some (.bool true) ∧ w.heap.size + 1 < w'.heap.size ∧ Below w.heap.size w w') (first | exact ⟨b0, b1, b2', b3, b4, b5, b6, x0, x1, hz, hB.drew⟩ | exact nine_keep (by assumption) (by assumption)) (first | (go_at_call 66; refine (vcan_any _ _ _ _ _ _ _ _).mono ?_; rintro e w1 ⟨rfl, hb⟩) | (go_at_call 150; refine (places_yes c _ hv0.out).mono ?_; rintro e w2 ⟨rfl, hb⟩))
          | fail
        rename_i hq
        obtain ⟨b0, b1, b2', b3, b4, b5, b6, x0, x1, hz, hB⟩ := hq
        go_wp2_with (go_at_call 149; refine (temps_any _ _ T (HL.out _ hB)).mono ?_; rintro e w3 ⟨rfl, rfl⟩)
        go_ret
        exact ⟨ret_bool hE.out.symm, hB⟩
  · have hlen' : ((T.length : Int) == c.P) = false := by simp; omega
    have hlen2 : ((T.length : Int) != c.P) = true := by simp; omega
    have hE := hid (bodyV_len (br := br) hlen)
    clear hlen HL
    go_enter Tryz.func177, Tryz.ntmps177
    go_wp2_with fail
    first
      | go_region_held3 (fun w' => w'.cell? ⟨w.heap.size, 0, none⟩ = some (.int .i64 c.R) ∧ w'.cell? ⟨w.heap.size, 1, none⟩ = some (.int .i64 c.L) ∧ w'.cell? ⟨w.heap.size, 2, none⟩ = some (.int .i64 c.A) ∧ w'.cell? ⟨w.heap.size, 3, none⟩ = some (.int .i64 c.B) ∧ w'.cell? ⟨w.heap.size, 4, none⟩ = some (.int .i64 c.K) ∧ w'.cell? ⟨w.heap.size, 5, none⟩ = some (.int .i64 c.A2) ∧ w'.cell? ⟨w.heap.size, 6, none⟩ = some (.int .i64 c.B2) ∧ w'.cell? ⟨w.heap.size + 1, 0, none⟩ = some (.slice a0 T.length cap) ∧ w'.cell? ⟨w.heap.size + 1, 1, none⟩ = some (.bool br) ∧ w.heap.size + 1 < w'.heap.size ∧ Below w.heap.size w w') (first | exact ⟨b0, b1, b2', b3, b4, b5, b6, x0, x1, hz, hB.drew⟩ | exact nine_keep (by assumption) (by assumption)) (first | (go_at_call 66; refine (vcan_any _ _ _ _ _ _ _ _).mono ?_; rintro e w1 ⟨rfl, hb⟩) | (go_at_call 150; refine (places_yes c _ hv0.out).mono ?_; rintro e w2 ⟨rfl, hb⟩))
      | fail
    rename_i hq
    obtain ⟨b0, b1, b2', b3, b4, b5, b6, x0, x1, hz, hB⟩ := hq
    go_wp2
    go_ret
    exact ⟨ret_bool hE.out.symm, hB⟩
end Go.Proofs.YtihbjimnjhfpeaaGreat
