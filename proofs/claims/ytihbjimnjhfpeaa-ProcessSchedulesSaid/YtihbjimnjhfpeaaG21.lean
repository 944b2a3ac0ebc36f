/- Texts of this seat, one behind the other. -/
import Derived.Test.YtihbjimnjhfpeaaG17
import Derived.Test.YtihbjimnjhfpeaaG19
/- Plain lemmas on whole roots of powers of ten: shifts by decades, whole exponents, growth, when a root is exact. No Go in sight. -/
namespace Go.Proofs.Ytihbjimnjhfpeaa.Lt.Pm

theorem root_shift (e z k : Nat) (hz : 1 ≤ z) : rootN (e + k * z) z / 10 ^ k = rootN e z := by
  have h := rootN_is (e + k * z) z hz
  generalize rootN (e + k * z) z = N at h ⊢
  obtain ⟨h1, h2⟩ := h
  have hp : 0 < 10 ^ k := Nat.pow_pos (by decide)
  symm
  refine rootN_eq hz ⟨?_, ?_⟩
  · have a : (N / 10 ^ k * 10 ^ k) ^ z ≤ 10 ^ (e + k * z) := Nat.le_trans (Nat.pow_le_pow_left (Nat.div_mul_le_self _ _) _) h1
    rw [Nat.mul_pow, ← Nat.pow_mul, Nat.pow_add] at a
    exact Nat.le_of_mul_le_mul_right a (Nat.pow_pos (by decide))
  · have a : N + 1 ≤ (N / 10 ^ k + 1) * 10 ^ k := by
      have := Nat.div_add_mod N (10 ^ k)
      have := Nat.mod_lt N hp
      rw [Nat.add_mul, Nat.mul_comm]; omega
    have b := Nat.lt_of_lt_of_le h2 (Nat.pow_le_pow_left a z)
    rw [Nat.mul_pow, ← Nat.pow_mul, Nat.pow_add] at b
    exact Nat.lt_of_mul_lt_mul_right b

theorem root_whole (q z : Nat) (hz : 1 ≤ z) : rootN (q * z) z = 10 ^ q := by
  refine rootN_eq hz ⟨?_, ?_⟩
  · rw [← Nat.pow_mul]; exact Nat.le_refl _
  · rw [Nat.pow_mul]
    exact Nat.pow_lt_pow_left (Nat.lt_succ_self _) (by omega)

theorem root_mono {e e' z : Nat} (hz : 1 ≤ z) (h : e ≤ e') : rootN e z ≤ rootN e' z := by
  have h1 := rootN_is e z hz
  have h2 := rootN_is e' z hz
  rcases Nat.lt_or_ge (rootN e' z) (rootN e z) with h3 | h3
  · have a := Nat.pow_le_pow_left (show rootN e' z + 1 ≤ rootN e z from h3) z
    have b : 10 ^ e ≤ 10 ^ e' := Nat.pow_le_pow_right (by decide) h
    have := h1.1; have := h2.2
    omega
  · exact h3

theorem odd_pow {m : Nat} (h : m % 2 = 1) (k : Nat) : m ^ k % 2 = 1 := by
  induction k with
  | zero => rfl
  | succ k ih => rw [Nat.pow_succ, Nat.mul_mod, ih, h]
theorem two_part {a b m n : Nat} (hm : m % 2 = 1) (hn : n % 2 = 1) (h : 2 ^ a * m = 2 ^ b * n) : a = b := by
  induction a generalizing b with
  | zero =>
    cases b with
    | zero => rfl
    | succ b => rw [Nat.pow_succ, Nat.pow_zero, Nat.one_mul, Nat.mul_comm (2 ^ b) 2, Nat.mul_assoc] at h; omega
  | succ a ih =>
    cases b with
    | zero => rw [Nat.pow_succ, Nat.pow_zero, Nat.one_mul, Nat.mul_comm (2 ^ a) 2, Nat.mul_assoc] at h; omega
    | succ b =>
      rw [Nat.pow_succ, Nat.pow_succ, Nat.mul_comm (2 ^ a) 2, Nat.mul_comm (2 ^ b) 2, Nat.mul_assoc, Nat.mul_assoc] at h
      rw [ih (Nat.eq_of_mul_eq_mul_left (by decide) h)]
theorem two_split (n : Nat) (h : 0 < n) : ∃ a m, n = 2 ^ a * m ∧ m % 2 = 1 := by
  induction n using Nat.strongRecOn with
  | ind n ih =>
    rcases Nat.mod_two_eq_zero_or_one n with h2 | h2
    · obtain ⟨a, m, h3, h4⟩ := ih (n / 2) (by omega) (by omega)
      exact ⟨a + 1, m, by rw [Nat.pow_succ, Nat.mul_comm (2 ^ a) 2, Nat.mul_assoc, ← h3]; omega, h4⟩
    · exact ⟨0, n, by simp, h2⟩
/-- A power of ten is a z-th power only if z divides its exponent. -/
theorem exact_dvd {n z e : Nat} (h : n ^ z = 10 ^ e) : ∃ a, e = a * z := by
  have hn : 0 < n ∨ z = 0 := by
    rcases Nat.eq_zero_or_pos n with rfl | hn
    · right
      rcases Nat.eq_zero_or_pos z with hz | hz
      · exact hz
      · rw [Nat.zero_pow hz] at h
        have : 0 < 10 ^ e := Nat.pow_pos (by decide)
        omega
    · exact .inl hn
  rcases hn with hn | rfl
  · obtain ⟨a, m, rfl, hm⟩ := two_split n hn
    rw [Nat.mul_pow, ← Nat.pow_mul, show (10 : Nat) = 2 * 5 from rfl, Nat.mul_pow] at h
    exact ⟨a, (two_part (odd_pow hm z) (odd_pow (by decide) e) h).symm⟩
  · refine ⟨0, ?_⟩
    rw [Nat.pow_zero] at h
    rcases Nat.eq_zero_or_pos e with he | he
    · simp [he]
    · have : 10 ^ 1 ≤ 10 ^ e := Nat.pow_le_pow_right (by decide) he
      omega
theorem root_exact (e z : Nat) (hz : 1 ≤ z) : rootN e z ^ z = 10 ^ e ↔ e % z = 0 := by
  constructor
  · intro h
    obtain ⟨a, rfl⟩ := exact_dvd h
    exact Nat.mul_mod_left a z
  · intro h
    obtain ⟨q, rfl⟩ : ∃ q, e = q * z := ⟨e / z, by rw [Nat.mul_comm]; exact (Nat.mul_div_cancel' (Nat.dvd_of_mod_eq_zero h)).symm⟩
    rw [root_whole q z hz, ← Nat.pow_mul]
theorem root_le16 (e z : Nat) (hz : 1 ≤ z) (he : e ≤ 16 * z) : rootN e z ≤ 10000000000000000 := by
  have := root_mono hz he
  rw [root_whole 16 z hz] at this
  exact this
theorem root_pos (e z : Nat) (hz : 1 ≤ z) : 1 ≤ rootN e z := Nat.le_trans (Nat.pow_pos (by decide)) (root_bd e z hz).1

/-- The exponent of 10 (times z) in the rate, the rate down and up. -/
def expo (r z t : Int) : Int := 6 * z + min (t - r) (10 * z)
def rateD (r z t : Int) : Nat := if expo r z t < 0 then 0 else rootN (expo r z t).toNat z.toNat
def rateU (r z t : Int) : Nat := if expo r z t < 0 then 1 else if (expo r z t).toNat % z.toNat = 0 then rootN (expo r z t).toNat z.toNat else rootN (expo r z t).toNat z.toNat + 1
theorem expo_le (r z t : Int) : expo r z t ≤ 16 * z := by unfold expo; omega
theorem rateD_neg {r z t : Int} (h : expo r z t < 0) : rateD r z t = 0 := by unfold rateD; rw [if_pos h]
theorem rateD_pos {r z t : Int} (h : ¬ expo r z t < 0) : rateD r z t = rootN (expo r z t).toNat z.toNat := by unfold rateD; rw [if_neg h]
theorem rateD_le (r z t : Int) (hz : 1 ≤ z) : rateD r z t ≤ 10000000000000000 := by
  unfold rateD
  split
  · omega
  · have := expo_le r z t
    exact root_le16 _ _ (by omega) (by omega)
theorem rateU_eq (r z t : Int) : rateU r z t = if 0 ≤ expo r z t ∧ (expo r z t).toNat % z.toNat = 0 then rateD r z t else rateD r z t + 1 := by
  unfold rateU rateD
  by_cases h : expo r z t < 0
  · rw [if_pos h, if_pos h, if_neg (by omega)]
  · rw [if_neg h, if_neg h]
    by_cases h2 : (expo r z t).toNat % z.toNat = 0
    · rw [if_pos h2, if_pos ⟨by omega, h2⟩]
    · rw [if_neg h2, if_neg (by omega)]
/-- The rate out of the decade below the cut. -/
theorem rateD_digits {r z t : Int} (hz : 1 ≤ z) (h : ¬ expo r z t < 0) (hp : (expo r z t).toNat % z.toNat ≠ 0) :
    (expo r z t).toNat / z.toNat ≤ 15 ∧ rateD r z t = rootN (15 * z.toNat + (expo r z t).toNat % z.toNat) z.toNat / 10 ^ (15 - (expo r z t).toNat / z.toNat) := by
  have hle := expo_le r z t
  rw [rateD_pos h]
  have hZ : 1 ≤ z.toNat := by omega
  have hE : (expo r z t).toNat ≤ 16 * z.toNat := by omega
  generalize (expo r z t).toNat = E at *
  generalize z.toNat = Z at *
  have hdm := Nat.div_add_mod E Z
  have hq : E / Z ≤ 15 := by
    rcases Nat.lt_or_ge 15 (E / Z) with h16 | h16
    · have : Z * 16 ≤ Z * (E / Z) := Nat.mul_le_mul_left _ h16
      omega
    · exact h16
  refine ⟨hq, ?_⟩
  rw [← root_shift E Z (15 - E / Z) hZ]
  congr 2
  have : (15 - E / Z) * Z + Z * (E / Z) = 15 * Z := by
    rw [Nat.mul_comm Z, ← Nat.add_mul]; congr 1; omega
  omega
theorem rateD_whole {r z t : Int} (hz : 1 ≤ z) (h : ¬ expo r z t < 0) (hp : (expo r z t).toNat % z.toNat = 0) : rateD r z t = 10 ^ ((expo r z t).toNat / z.toNat) := by
  rw [rateD_pos h]
  conv => lhs; rw [← Nat.div_add_mod (expo r z t).toNat z.toNat, hp, Nat.add_zero, Nat.mul_comm]
  exact root_whole _ _ (by omega)
theorem rateD_mono {r z t u : Int} (hz : 1 ≤ z) (h : t ≤ u) : rateD r z t ≤ rateD r z u := by
  have he : expo r z t ≤ expo r z u := by unfold expo; omega
  by_cases h1 : expo r z t < 0
  · rw [rateD_neg h1]; exact Nat.zero_le _
  · rw [rateD_pos h1, rateD_pos (by omega)]
    exact root_mono (by omega) (by omega)
end Go.Proofs.Ytihbjimnjhfpeaa.Lt.Pm

/- Walks of sort.Search over the root's test, and root, Root of package lethal: contracts. -/
namespace Go.Proofs.Ytihbjimnjhfpeaa.Lt
open Go.RowKit Go.Lib

/-- What sort.Search finds, whatever the test. -/
def Found (n : Nat) (p : Nat → Bool) (r : Nat) : Prop := r ≤ n ∧ (r = 0 ∨ p (r - 1) = false) ∧ (r = n ∨ p r = true)
def SearchP (n : Nat) (p : Nat → Bool) (S : World → Prop) (e : Ending) (w' : World) : Prop := ∃ r : Nat, e = .returned (.int .i64 r) ∧ Found n p r ∧ S w'
structure Span (n : Nat) (p : Nat → Bool) (i j : Nat) : Prop where
  le : i ≤ j
  top : j ≤ n
  low : i = 0 ∨ p (i - 1) = false
  high : j = n ∨ p j = true
theorem Span.up {n : Nat} {p : Nat → Bool} {i j h : Nat} (s : Span n p i j) (h2 : h < j) (hp : p h = false) : Span n p (h + 1) j := ⟨h2, s.top, .inr hp, s.high⟩
theorem Span.down {n : Nat} {p : Nat → Bool} {i j h : Nat} (s : Span n p i j) (h1 : i ≤ h) (h2 : h < j) (hp : p h = true) : Span n p i h := ⟨h1, by have := s.top; omega, s.low, .inr hp⟩

set_option maxHeartbeats 1000000 in
theorem search_root (n : Nat) (p : Nat → Bool) (S : World → Prop) (c1 c2 c3 : Value) (w : World) (hn : n ≤ 4000000000000000000) (hS : S w)
    (hcall : ∀ (m : Nat) (wr : World), m < n → S wr → Calls Try.prog 81 #[.int .i64 m, c1, c2, c3] wr fun e w' => e = .returned (.bool (p m)) ∧ S w') :
    Calls Try.prog 80 #[.int .i64 n, .func (.func 81) #[] #[c1, c2, c3]] w (SearchP n p S) := by
  have HC := hid hcall; clear hcall
  have HS := hid hS; clear hS
  go_enter Try.func80, Try.ntmps80
  go_wp2
  go_loopw [5, 6] (fun a b wr => ∃ i j : Nat, a = .int .i64 i ∧ b = .int .i64 j ∧ Hid (Span n p i j) ∧ Hid (S wr)) (fun a b _ => (intOf b - intOf a).toNat)
  case atStart => exact ⟨0, n, rfl, rfl, ⟨Nat.zero_le _, Nat.le_refl _, .inl rfl, .inl rfl⟩, HS⟩
  case round =>
    obtain ⟨i, j, rfl, rfl, hs, hS⟩ := hrel
    have hij := hs.out.le
    have hjn := hs.out.top
    by_cases hlt : i < j
    · obtain ⟨m, hm⟩ : ∃ m, m = (i + j) / 2 := ⟨_, rfl⟩
      have hm1 : i ≤ m := by omega
      have hm2 : m < j := by omega
      have HM : Hid (((i : Int) + j) / 2 = (m : Int)) := by unfold Hid; omega
      clear hm
      cases hp : p m
      · have HP := hid hp
        go_wp2_with (go_at_call 81; rw [HM.out]; refine (HC.out m _ (by omega) hS.out).mono ?_; rintro e w2 ⟨rfl, hS2⟩)
        go_roundw
        case rel => exact ⟨m + 1, j, by go_num, rfl, hs.out.up hm2 HP.out, hS2⟩
        case measure => simp [intOf]; omega
      · have HP := hid hp
        go_wp2_with (go_at_call 81; rw [HM.out]; refine (HC.out m _ (by omega) hS.out).mono ?_; rintro e w2 ⟨rfl, hS2⟩)
        go_roundw
        case rel => exact ⟨i, m, rfl, rfl, hs.out.down hm1 hm2 HP.out, hS2⟩
        case measure => simp [intOf]; omega
    · obtain rfl : i = j := by omega
      go_wp2
      go_ret
      exact ⟨i, rfl, ⟨hs.out.top, hs.out.low, hs.out.high⟩, hS.out⟩
end Go.Proofs.Ytihbjimnjhfpeaa.Lt

/- Walk of root, Root of package lethal: contracts. -/
namespace Go.Proofs.Ytihbjimnjhfpeaa.Lt
open Go.RowKit Go.Lib

theorem NumV.shape {w : World} {base : Nat} {v : Value} {l : List Nat} (h : NumV w base v l) (hl : l ≠ []) : ∃ g cap, v = .slice (some ⟨g, 0, none⟩) l.length cap := by
  rcases h.2 with ⟨_, h0⟩ | ⟨g, cap, cur, rfl, _⟩
  · exact absurd (List.eq_nil_of_length_eq_zero h0) hl
  · exact ⟨g, cap, rfl⟩
theorem NumV.ne {w : World} {base : Nat} {v : Value} {l : List Nat} (h : NumV w base v l) {b : Nat} {cs : Array Value} {T : TypeId} {fz : Nat × Nat} (hb : w.heap[b]? = some (.cells cs T fz)) (hT : T ≠ 102) : v.ownBlock ≠ some b := by
  intro hv
  rcases h.2 with ⟨rfl, _⟩ | ⟨g, cap, cur, rfl, _, hg, _⟩
  · cases hv
  · cases hv
    rw [hg] at hb
    cases hb
    exact hT rfl

/-- The limit after k multiplications by 10. -/
def limL (b z : Nat) : Nat → List Nat
  | 0 => powL b z
  | k + 1 => Pm.timesL 10 (limL b z k) 0
theorem limL_norm (b z : Nat) (hb : 0 < b) (hb2 : b < 9000000000000000000) (k : Nat) : Pm.Norm (limL b z k) := by
  induction k with
  | zero => exact powL_norm b hb hb2 z
  | succ k ih => exact Pm.norm_timesL 10 (by decide) (by unfold Pm.W; omega) _ 0 (by decide) ih
theorem limL_val (b z k : Nat) : Pm.val (limL b z k) = b ^ z * 10 ^ k := by
  induction k with
  | zero => show Pm.val (powL b z) = _; rw [powL_val]; simp
  | succ k ih => unfold limL; rw [Pm.val_timesL, ih, Nat.pow_succ, Nat.mul_assoc]; rfl
theorem limL_len (b z k : Nat) : (limL b z k).length ≤ z + 1 + k := by
  induction k with
  | zero => exact powL_len b z
  | succ k ih => exact Nat.le_trans (Pm.length_timesL 10 _ 0) (by omega)
theorem limL_ne (b z k : Nat) : limL b z k ≠ [] := by
  induction k with
  | zero => exact powL_ne b z
  | succ k ih =>
    unfold limL
    cases h : limL b z k with
    | nil => exact absurd h ih
    | cons x l => simp [Pm.timesL]

/-- What the search finds is the root. -/
theorem root_found (e z r : Nat) (hz : 1 ≤ z) (h : Found (9 * tenN (e / z) - 1) (fun m => aboveB (powL (tenN (e / z) + m + 1) z) (limL (tenN (e / z)) z (e % z))) r) : Pm.rootN e z = tenN (e / z) + r := by
  have hp := tenN_pos (e / z)
  have hv : Pm.val (limL (tenN (e / z)) z (e % z)) = 10 ^ e := by
    rw [limL_val]; unfold tenN
    rw [← Nat.pow_mul, ← Nat.pow_add, Nat.mul_comm, Nat.div_add_mod]
  obtain ⟨h0, h1, h2⟩ := h
  simp only [aboveB, powL_val, hv, decide_eq_true_eq, decide_eq_false_iff_not] at h1 h2
  refine Pm.rootN_eq hz ⟨?_, ?_⟩
  · rcases h1 with rfl | h1
    · exact Pm.low_root e z
    · rcases Nat.eq_zero_or_pos r with rfl | hr
      · exact Pm.low_root e z
      · rw [show tenN (e / z) + (r - 1) + 1 = tenN (e / z) + r by omega] at h1
        omega
  · rcases h2 with rfl | h2
    · have := Pm.high_root e z hz
      rw [show tenN (e / z) + (9 * tenN (e / z) - 1) + 1 = 10 * tenN (e / z) by omega]
      exact this
    · exact h2

theorem two_boxes {w : World} {a b : Value} {T U : TypeId} : ((w.alloc (.cells #[a] T)).alloc (.cells #[b] U)).cell? ⟨w.heap.size, 0, none⟩ = some a ∧ ((w.alloc (.cells #[a] T)).alloc (.cells #[b] U)).cell? ⟨w.heap.size + 1, 0, none⟩ = some b := by
  have h1 := cell_alloc_new (w.alloc (.cells #[a] T)) #[b] U (0, 0) 0
  have h0 := cell_alloc_new w #[a] T (0, 0) 0
  have hs : (w.alloc (.cells #[a] T)).heap.size = w.heap.size + 1 := by simp
  rw [hs] at h1
  refine ⟨?_, h1⟩
  have := Below.heap_alloc (w.alloc (.cells #[a] T)) (.cells #[b] U) w.heap.size (by omega)
  exact (World.cell?_of_block (a := ⟨w.heap.size, 0, none⟩) this).trans h0

theorem two_size {w : World} {o o' : Obj} : ((w.alloc o).alloc o').heap.size = w.heap.size + 2 := by simp
theorem two_num {w w2 : World} {o o' : Obj} {v : Value} {l : List Nat} (h : NumV w2 ((w.alloc o).alloc o').heap.size v l) : NumV w2 (w.heap.size + 2) v l := by rw [two_size] at h; exact h
theorem two_below {w w2 : World} {a b : Value} {T U : TypeId} (hb : Below ((w.alloc (.cells #[a] T)).alloc (.cells #[b] U)).heap.size ((w.alloc (.cells #[a] T)).alloc (.cells #[b] U)) w2) :
    w2.cell? ⟨w.heap.size, 0, none⟩ = some a ∧ w2.cell? ⟨w.heap.size + 1, 0, none⟩ = some b ∧ w.heap.size + 2 ≤ w2.heap.size ∧ Below w.heap.size w w2 := by
  obtain ⟨h0, h1⟩ := two_boxes (w := w) (a := a) (b := b) (T := T) (U := U)
  refine ⟨keep_cell hb h0, keep_cell hb h1, by rw [← two_size]; exact hb.size, ?_⟩
  exact (((Below.refl _ _).alloc (Nat.le_refl _) _).alloc (by simp) _).trans (hb.mono (by rw [two_size]; omega))

/-- What stands in root's variables after k multiplications. -/
def RtS (w : World) (L z low k : Nat) (wr : World) : Prop := ∃ v, wr.heap[L]? = some (.cells #[v] 120 (0, 0)) ∧ NumV wr (w.heap.size + 2) v (limL low z k) ∧
  wr.cell? ⟨w.heap.size, 0, none⟩ = some (.int .i64 z) ∧ wr.cell? ⟨w.heap.size + 1, 0, none⟩ = some (.int .i64 low) ∧ Below w.heap.size w wr ∧ w.heap.size + 2 ≤ L ∧ L < wr.heap.size
theorem rt_start {w w2 : World} {v : Value} {z low : Nat} (hn : NumV w2 (w.heap.size + 2) v (powL low z)) (cz : w2.cell? ⟨w.heap.size, 0, none⟩ = some (.int .i64 z)) (cl : w2.cell? ⟨w.heap.size + 1, 0, none⟩ = some (.int .i64 low))
    (hB : Below w.heap.size w w2) (hs : w.heap.size + 2 ≤ w2.heap.size) : RtS w w2.heap.size z low 0 (w2.alloc (.cells #[v] 120)) :=
  ⟨v, heap_alloc_new _ _, World.ownsRow.alloc hn _, keep_cell (Below.alloc (Below.refl _ _) (Nat.le_refl _) _) cz, keep_cell (Below.alloc (Below.refl _ _) (Nat.le_refl _) _) cl, hB.alloc hB.size _, hs, by simp⟩
theorem rt_mid {w wr w4 : World} {L z low k : Nat} {v v' : Value} (hb : wr.heap[L]? = some (.cells #[v] 120 (0, 0))) (hv : NumV wr (w.heap.size + 2) v (limL low z k)) (hB : Below w.heap.size w wr) (hL : w.heap.size + 2 ≤ L)
    (cz : wr.cell? ⟨w.heap.size, 0, none⟩ = some (.int .i64 z)) (cl : wr.cell? ⟨w.heap.size + 1, 0, none⟩ = some (.int .i64 low))
    (hn : NumV w4 (w.heap.size + 2) v' (Pm.timesL 10 (limL low z k) 0)) (hg : wr.grownBy w4 v.ownBlock) :
    w4.cell? ⟨L, 0, none⟩ = some v ∧ w4.frozen? ⟨L, 0, none⟩ = false ∧ L < w4.heap.size ∧ RtS w L z low (k + 1) (w4.setCell ⟨L, 0, none⟩ v') := by
  have hne : v.ownBlock ≠ some L := hv.ne hb (by decide)
  have hlt := lt_of_block hb
  have hb4 : w4.heap[L]? = some (.cells #[v] 120 (0, 0)) := by rw [hg.block L hlt (fun e => hne e.symm)]; exact hb
  have hlt4 := lt_of_block hb4
  have hne' : v'.ownBlock ≠ some L := hn.ne hb4 (by decide)
  have old : ∀ b, b < w.heap.size + 2 → w4.heap[b]? = wr.heap[b]? := fun b h => hg.block b (by omega) (fun e => by have := (World.ownsRow.lt hv b e.symm).1; omega)
  have oldc : ∀ b u, b < w.heap.size + 2 → wr.cell? ⟨b, 0, none⟩ = some u → (w4.setCell ⟨L, 0, none⟩ v').cell? ⟨b, 0, none⟩ = some u := fun b u h hc => by
    rw [World.cell?_of_block (a := ⟨b, 0, none⟩) (Below.heap_setCell w4 ⟨L, 0, none⟩ v' b (by show b ≠ L; omega)), World.cell?_of_block (a := ⟨b, 0, none⟩) (old b h)]
    exact hc
  refine ⟨cell_of_one hb4, free_of_one hb4, hlt4, v', one_setCell hb4, ?_, oldc _ _ (by omega) cz, oldc _ _ (by omega) cl, ?_, hL, by simpa [World.setCell] using hlt4⟩
  · exact ownsRow_setCell_other hn hne' v'
  · exact (hB.grown hg hB.size (fun j hj => by have := (World.ownsRow.lt hv j hj).1; omega)).setCell (show w.heap.size ≤ L by omega) v'

theorem RtS.keep {w wr w2 : World} {L z low k : Nat} (h : RtS w L z low k wr) (hb : Below wr.heap.size wr w2) : RtS w L z low k w2 := by
  obtain ⟨v, h1, h2, h3, h4, h5, h6, h7⟩ := h
  refine ⟨v, (hb.block L h7).trans h1, ?_, keep_cell hb h3, keep_cell hb h4, h5.trans (hb.mono h5.size), h6, Nat.lt_of_lt_of_le h7 hb.size⟩
  exact World.ownsRow.kept h2 ⟨hb.os, hb.tape, hb.output, hb.size, fun j hj _ => hb.block j hj⟩ (row := none) (by cases v.ownBlock <;> simp)
/-- The root's test where root calls it. -/
theorem rt_call {w : World} {L z low k m : Nat} (hz2 : z ≤ 60) (hlow : low + m + 1 ≤ 1000000000000000000) (hlow0 : 0 < low) (hlow2 : low < 9000000000000000000) (hk : k ≤ 60) (wr : World) (h : RtS w L z low k wr) :
    Calls Try.prog 81 #[.int .i64 m, .pointer (some ⟨w.heap.size + 1, 0, none⟩), .pointer (some ⟨w.heap.size, 0, none⟩), .pointer (some ⟨L, 0, none⟩)] wr fun e w' => e = .returned (.bool (aboveB (powL (low + m + 1) z) (limL low z k))) ∧ RtS w L z low k w' := by
  have h' := h
  obtain ⟨v, h1, h2, h3, h4, h5, h6, h7⟩ := h
  have := limL_len low z k
  exact (rtest_any _ _ _ low m z v (limL low z k) wr (limL_norm low z hlow0 hlow2 k) (by omega) hz2 hlow h4 h3 (cell_of_one h1) (h2.reads (limL_ne _ _ _))).mono fun e w' ⟨he, hb⟩ => ⟨he, h'.keep hb⟩

set_option maxHeartbeats 2000000 in
theorem lroot_any (e z : Nat) (w : World) (hz : 1 ≤ z) (hz2 : z ≤ 60) (he : e ≤ 16 * z) :
    Calls Try.prog 73 #[.int .i64 e, .int .i64 z] w fun r w' => r = .returned (.int .i64 (Pm.rootN e z : Nat)) ∧ Below w.heap.size w w' := by
  have hq : e / z ≤ 16 := Nat.div_le_of_le_mul (by rw [Nat.mul_comm]; exact he)
  have hm : e % z < z := Nat.mod_lt _ hz
  have hq1 : (0 : Int) ≤ (e : Int) / z := Int.ediv_nonneg (by omega) (by omega)
  have HQ : Hid ((e : Int) / z = ((e / z : Nat) : Int)) := by unfold Hid; omega
  have hlow1 := tenN_pos (e / z)
  have hlow2 : tenN (e / z) ≤ 10000000000000000 := tenN_le hq
  go_enter Try.func73, Try.ntmps73
  go_wp2_with (first
    | (go_at_call 68; rw [HQ.out]; refine (tenTo_any (e / z) _ (by omega)).mono ?_; rintro r w1 ⟨rfl, rfl⟩)
    | (go_at_call 78; refine (power_any (tenN (e / z)) z _ (by omega) (by omega) (by omega)).mono ?_; rintro r w2 ⟨v2, rfl, hv2, hb2⟩; obtain ⟨g2, cap2, rfl⟩ := hv2.shape (powL_ne _ _); obtain ⟨cz, cl, hsz, hB2⟩ := two_below hb2; have hsz0 : w.heap.size < w2.heap.size := (by omega); have hsz1 : w.heap.size + 1 < w2.heap.size := (by omega); have hn2 := two_num hv2; clear hb2 hv2))
  have hS := hid (rt_start hn2 cz cl hB2 hsz)
  clear hn2 cz cl hB2
  generalize w2.alloc (.cells #[.slice (some ⟨g2, 0, none⟩) (powL (tenN (e / z)) z).length cap2] 120) = w3 at hS ⊢
  generalize hL : w2.heap.size = L at hS hsz hsz0 hsz1 ⊢
  clear hL
  go_loopw [17, 18, 19, 20, 21] (fun i _ _ _ _ wr => ∃ k : Nat, k ≤ e % z ∧ i = .int .i64 k ∧ Hid (RtS w L z (tenN (e / z)) k wr)) (fun i _ _ _ _ _ => e % z - (intOf i).toNat)
  case atStart => exact ⟨0, Nat.zero_le _, rfl, hS⟩
  case round =>
    obtain ⟨k, hk, rfl, hS'⟩ := hrel
    clear hS
    by_cases hlt : k < e % z
    · obtain ⟨v, hb, hv, cz, cl, hB, hL, hL2⟩ := hS'.out
      obtain ⟨g, cap, rfl⟩ := hv.shape (limL_ne _ _ _)
      have hc := cell_of_one hb
      have hnm := limL_norm (tenN (e / z)) z (by omega) (by omega) k
      have hln := limL_len (tenN (e / z)) z k
      have hlt' : (k : Int) < (e : Int) % z := by omega
      have hsize := hB.size
      have HB := hid hb
      have HBB := hid hB
      clear hb hB
      go_wp2_with (go_at_call 79; refine (times_any (w.heap.size + 2) _ (limL (tenN (e / z)) z k) 10 _ (by decide) (by decide) (limL_ne _ _ _) hnm.word (by omega) (by omega) hv).mono ?_; rintro r w4 ⟨v', rfl, hn4, hg4⟩; obtain ⟨q1, q2, q3, q4⟩ := rt_mid HB.out hv HBB.out hL cz cl hn4 hg4; obtain ⟨g4, cap4, rfl⟩ := hn4.shape (limL_ne (tenN (e / z)) z (k + 1)); have Q4 := hid q4; clear q4 hn4 hg4 hc hv cz cl)
      go_roundw
      case rel => exact ⟨k + 1, by omega, by go_num, Q4⟩
      case measure => simp [intOf]; omega
    · obtain rfl : k = e % z := by omega
      obtain ⟨v, hb, hv, cz, cl, hB, hL, hL2⟩ := hS'.out
      have EW : Hid (IntKind.i64.wrap (IntKind.i64.wrap (9 * (tenN (e / z) : Int)) - 1) = ((9 * tenN (e / z) - 1 : Nat) : Int)) := by
        unfold Hid
        rw [wrap_i64 (n := 9 * (tenN (e / z) : Int)) (by omega) (by omega), wrap_i64 (by omega) (by omega)]; omega
      clear hb hv cz hB
      go_wp2
      go_region_held3 (fun w' => w'.cell? ⟨w.heap.size + 1, 0, none⟩ = some (.int .i64 (tenN (e / z))) ∧ RtS w L z (tenN (e / z)) (e % z) w')
        (first | exact ⟨cl, hS'.out.keep ((Below.refl _ _).drew)⟩ | exact ⟨(‹RtS _ _ _ _ _ _›.elim fun _ h => h.2.2.2.1), ‹RtS _ _ _ _ _ _›⟩)
        (first | (go_at_call 80; rw [EW.out]; refine (search_root (9 * tenN (e / z) - 1) (fun m => aboveB (powL (tenN (e / z) + m + 1) z) (limL (tenN (e / z)) z (e % z))) (RtS w L z (tenN (e / z)) (e % z)) _ _ _ _ (by omega) (‹_ ∧ RtS _ _ _ _ _ _›).2 (fun m wr hm h => rt_call hz2 (by omega) (by omega) (by omega) (by omega) wr h)).mono ?_; rintro r w5 ⟨r, rfl, hfnd, hS5⟩))
      go_wp2
      go_ret
      have hr1 := hfnd.1
      have hr2 := root_found e z _ hz hfnd
      exact ⟨ret_int (by rw [wrap_i64 (by omega) (by omega), hr2]; omega), hS5.elim fun _ h => h.2.2.2.2.1⟩

def rootOk (e z : Int) : Bool := (decide (1 ≤ z) && decide (z ≤ 60)) && (decide (0 ≤ e) && decide (e ≤ 16 * z))
end Go.Proofs.Ytihbjimnjhfpeaa.Lt
