/- Texts of this seat, one behind the other. -/
import Derived.Test.YtihbjimnjhfpeaaGreatR10
import Derived.Test.YtihbjimnjhfpeaaGreatR09
/- Walk of the reference's Times: contract. -/
namespace Go.Proofs.YtihbjimnjhfpeaaGreat.Lt
open Go.RowKit Go.Lib

def at0 (l : List Nat) (i : Nat) : Nat := (l[i]?).getD 0
theorem at0_eq {l : List Nat} {i : Nat} (h : i < l.length) : at0 l i = l[i] := by simp [at0, h]
theorem mul_mill {x y : Nat} (h1 : x ≤ 1000000) (h2 : y ≤ 1000000) : x * y ≤ 1000000000000 := by
  have := Nat.mul_le_mul h1 h2
  omega
theorem dig_mill {l : List Nat} (h : ∀ x ∈ l, x < B6) {i : Nat} (hi : i < l.length) : l[i] ≤ 1000000 := by
  have := h _ (List.getElem_mem hi)
  rw [B6_eq] at this; omega

/-- Times, while it adds up: after i digits of a, and k of b with the next one. -/
structure TmR (a b : List Nat) (i k : Nat) (out : List Nat) : Prop where
  len : out.length = a.length + b.length + 1
  sum : Pw.vl B6 out = Pw.vl B6 (a.take i) * Pw.vl B6 b + at0 a i * B6 ^ i * Pw.vl B6 (b.take k)
  small : ∀ x ∈ out, x ≤ (i * b.length + k) * 1000000000000

theorem TmR.next {a b out : List Nat} {i : Nat} (h : TmR a b i b.length out) (hi : i < a.length) : TmR a b (i + 1) 0 out := by
  refine ⟨h.len, ?_, fun x hx => by have := h.small x hx; rw [Nat.add_mul i 1 b.length, Nat.one_mul, Nat.add_zero]; exact this⟩
  rw [h.sum, List.take_length, Pw.take_vl B6 a i hi]
  simp only [Pw.vl, List.take_zero, Nat.mul_zero, Nat.add_zero]
  rw [Nat.add_mul, at0_eq hi, Nat.mul_comm (B6 ^ i)]
theorem TmR.step {a b out : List Nat} {i k : Nat} (h : TmR a b i k out) (ha : ∀ x ∈ a, x < B6) (hb : ∀ x ∈ b, x < B6) (hi : i < a.length) (hk : k < b.length) (hik : i + k < out.length) :
    TmR a b i (k + 1) (out.set (i + k) (out[i + k] + a[i] * b[k])) := by
  refine ⟨by rw [List.length_set]; exact h.len, ?_, fun x hx => ?_⟩
  · rw [Pw.vl_set, h.sum, Pw.take_vl B6 b k hk, Nat.mul_add, at0_eq hi, Nat.pow_add]
    have : a[i] * b[k] * (B6 ^ i * B6 ^ k) = a[i] * B6 ^ i * (B6 ^ k * b[k]) := by
      rw [Nat.mul_assoc, Nat.mul_assoc, Nat.mul_comm b[k], Nat.mul_assoc]
    omega
  · rcases List.mem_or_eq_of_mem_set hx with hx | rfl
    · exact Nat.le_trans (h.small x hx) (Nat.mul_le_mul_right _ (by omega))
    · have h1 := h.small out[i + k] (List.getElem_mem _)
      have h2 := mul_mill (dig_mill ha hi) (dig_mill hb hk)
      rw [← Nat.add_assoc, Nat.succ_mul]; exact Nat.add_le_add h1 h2
/-- Times, while it carries: the first i digits are below the base. -/
structure TcR (V L i : Nat) (out : List Nat) : Prop where
  len : out.length = L
  sum : Pw.vl B6 out = V
  dig : ∀ j, j < i → (hj : j < out.length) → out[j] < B6
  small : ∀ x ∈ out, x ≤ 2000000000000000000
  rest : ∀ j, i < j → (hj : j < out.length) → out[j] ≤ 1000000000000000000
theorem TcR.step {V L i : Nat} {out : List Nat} (h : TcR V L i out) (hi : i + 1 < out.length) (hi' : i < out.length) :
    TcR V L (i + 1) ((out.set (i + 1) (out[i + 1] + out[i] / 1000000)).set i (out[i] % 1000000)) := by
  have hp := B6_pos
  have hc := Pw.carry_step B6 (by omega) out i hi
  rw [← B6_eq]
  refine ⟨by simp [h.len], by rw [hc]; exact h.sum, fun j hj hjl => ?_, fun x hx => ?_, fun j hj hjl => ?_⟩
  · rcases Nat.lt_or_ge j i with h1 | h1
    · rw [List.getElem_set_ne (by omega), List.getElem_set_ne (by omega)]
      exact h.dig j h1 (by simpa using hjl)
    · obtain rfl : j = i := by omega
      rw [List.getElem_set_self]; exact Nat.mod_lt _ (by omega)
  · rcases List.mem_or_eq_of_mem_set hx with hx | rfl
    · rcases List.mem_or_eq_of_mem_set hx with hx | rfl
      · exact h.small x hx
      · have h1 := h.rest (i + 1) (by omega) hi
        have h2 := h.small out[i] (List.getElem_mem _)
        have h3 : out[i] / B6 ≤ 2000000000000 := by rw [B6_eq]; omega
        omega
    · have : out[i] % B6 < B6 := Nat.mod_lt _ (by omega)
      rw [B6_eq] at this; rw [B6_eq]; omega
  · rw [List.getElem_set_ne (by omega), List.getElem_set_ne (by omega)]
    exact h.rest j (by omega) (by simpa using hjl)
/-- When all is carried, the number is whole but for zeros at its top. -/
theorem TcR.done {a b out : List Nat} {i : Nat} (h : TcR (Pw.vl B6 a * Pw.vl B6 b) (a.length + b.length + 1) i out) (hi : a.length + b.length ≤ i) (na : Pw.Norm B6 a) (nb : Pw.Norm B6 b) : ∀ x ∈ out, x < B6 := by
  have hp := B6_pos
  have hv : Pw.vl B6 out < B6 ^ (a.length + b.length) := by
    rw [h.sum, Nat.pow_add]
    exact Nat.mul_lt_mul'' (Pw.vl_lt na.dig) (Pw.vl_lt nb.dig)
  have h0 := Pw.last_zero (by omega) h.len hv
  intro x hx
  obtain ⟨j, hj, rfl⟩ := List.mem_iff_getElem.1 hx
  rcases Nat.lt_or_ge j (a.length + b.length) with h1 | h1
  · exact h.dig j (by omega) hj
  · have hl := h.len
    obtain rfl : j = a.length + b.length := by omega
    rw [h0]; omega
/-- A row of digits that came in, at a known block. -/
def RowAt (w : World) (g : Nat) (l : List Nat) : Prop := ∀ k (h : k < l.length), w.cell? ⟨g, k, none⟩ = some (.int .i64 (l[k] : Nat)) ∧ g < w.heap.size

end Go.Proofs.YtihbjimnjhfpeaaGreat.Lt

/- Walks of the reference's Power and root: contracts. -/
namespace Go.Proofs.YtihbjimnjhfpeaaGreat.Lt
open Go.RowKit Go.Lib

theorem Wh.base {w : World} {B B' : Nat} {v : Value} {x : Nat} (h : Wh w B v x) (hB : B' ≤ B) : Wh w B' v x := by
  obtain ⟨l, ⟨h1, h2⟩, h3⟩ := h
  refine ⟨l, ⟨h1, ?_⟩, h3⟩
  rcases h2 with h2 | ⟨g, cap, cur, hv, hg, r⟩
  · exact .inl h2
  · exact .inr ⟨g, cap, cur, hv, Nat.le_trans hB hg, r⟩
theorem WhP.after {x : Nat} {w w1 w' : World} {e : Ending} (hB : Below w.heap.size w w1) (h : WhP x w1 e w') : WhP x w e w' := by
  obtain ⟨v, he, hv, hb⟩ := h
  exact ⟨v, he, hv.base hB.size, hB.trans (hb.mono hB.size)⟩

/-- x and all its powers up to n are small enough to be reckoned. -/
def PowOk (x n : Nat) : Prop := ∀ m, m ≤ n → x ^ m < 1000000 ^ 1000
theorem PowOk.le {x n m : Nat} (h : PowOk x n) (hm : m ≤ n) : PowOk x m := fun k hk => h k (Nat.le_trans hk hm)
theorem PowOk.of {x n : Nat} (hx : 1 ≤ x) (h : x ^ n < 1000000 ^ 1000) : PowOk x n := fun _ hm => Nat.lt_of_le_of_lt (Nat.pow_le_pow_right hx hm) h
attribute [irreducible] PowOk
theorem PowOk.at' {x n m : Nat} (h : PowOk x n) (hm : m ≤ n) : x ^ m < 1000000 ^ 1000 := by unfold PowOk at h; exact h m hm

end Go.Proofs.YtihbjimnjhfpeaaGreat.Lt

/- Plain lemmas on whole roots of powers of ten: shifts by decades, whole exponents, growth, when a root is exact. No Go in sight. -/
namespace Go.Proofs.YtihbjimnjhfpeaaGreat.Lt.Pm

theorem root_shift (e z k : Nat) (hz : 1 ≤ z) : rootN (e + k * z) z / 10 ^ k = rootN e z := by
  have h := rootN_is (e + k * z) z hz
  generalize rootN (e + k * z) z = N at h ⊢
  obtain ⟨h1, h2⟩ := h
  have hp : 0 < 10 ^ k := Nat.pow_pos (by decide)
  symm
  refine rootN_eq hz ⟨?_, ?_⟩
  · have a : (N / 10 ^ k * 10 ^ k) ^ z ≤ 10 ^ (e + k * z) := Nat.le_trans (Nat.pow_le_pow_left (Nat.div_mul_le_self _ _) _) h1
    rw [Nat.mul_pow, ← Nat.pow_mul, Nat.pow_add] at a
    exact Nat.le_of_mul_le_mul_right a (Nat.pow_pos (by decide))
  · have a : N + 1 ≤ (N / 10 ^ k + 1) * 10 ^ k := by
      have := Nat.div_add_mod N (10 ^ k)
      have := Nat.mod_lt N hp
      rw [Nat.add_mul, Nat.mul_comm]; omega
    have b := Nat.lt_of_lt_of_le h2 (Nat.pow_le_pow_left a z)
    rw [Nat.mul_pow, ← Nat.pow_mul, Nat.pow_add] at b
    exact Nat.lt_of_mul_lt_mul_right b

theorem root_whole (q z : Nat) (hz : 1 ≤ z) : rootN (q * z) z = 10 ^ q := by
  refine rootN_eq hz ⟨?_, ?_⟩
  · rw [← Nat.pow_mul]; exact Nat.le_refl _
  · rw [Nat.pow_mul]
    exact Nat.pow_lt_pow_left (Nat.lt_succ_self _) (by omega)

theorem root_mono {e e' z : Nat} (hz : 1 ≤ z) (h : e ≤ e') : rootN e z ≤ rootN e' z := by
  have h1 := rootN_is e z hz
  have h2 := rootN_is e' z hz
  rcases Nat.lt_or_ge (rootN e' z) (rootN e z) with h3 | h3
  · have a := Nat.pow_le_pow_left (show rootN e' z + 1 ≤ rootN e z from h3) z
    have b : 10 ^ e ≤ 10 ^ e' := Nat.pow_le_pow_right (by decide) h
    have := h1.1; have := h2.2
    omega
  · exact h3

theorem root_le16 (e z : Nat) (hz : 1 ≤ z) (he : e ≤ 16 * z) : rootN e z ≤ 10000000000000000 := by
  have := root_mono hz he
  rw [root_whole 16 z hz] at this
  exact this
/-- The exponent of 10 (times z) in the rate, the rate down and up. -/
def expo (r z t : Int) : Int := 6 * z + min (t - r) (10 * z)
def rateD (r z t : Int) : Nat := if expo r z t < 0 then 0 else rootN (expo r z t).toNat z.toNat
def rateU (r z t : Int) : Nat := if expo r z t < 0 then 1 else if (expo r z t).toNat % z.toNat = 0 then rootN (expo r z t).toNat z.toNat else rootN (expo r z t).toNat z.toNat + 1
theorem expo_le (r z t : Int) : expo r z t ≤ 16 * z := by unfold expo; omega
theorem rateD_neg {r z t : Int} (h : expo r z t < 0) : rateD r z t = 0 := by unfold rateD; rw [if_pos h]
theorem rateD_pos {r z t : Int} (h : ¬ expo r z t < 0) : rateD r z t = rootN (expo r z t).toNat z.toNat := by unfold rateD; rw [if_neg h]
theorem rateD_le (r z t : Int) (hz : 1 ≤ z) : rateD r z t ≤ 10000000000000000 := by
  unfold rateD
  split
  · omega
  · have := expo_le r z t
    exact root_le16 _ _ (by omega) (by omega)
theorem rateU_eq (r z t : Int) : rateU r z t = if 0 ≤ expo r z t ∧ (expo r z t).toNat % z.toNat = 0 then rateD r z t else rateD r z t + 1 := by
  unfold rateU rateD
  by_cases h : expo r z t < 0
  · rw [if_pos h, if_pos h, if_neg (by omega)]
  · rw [if_neg h, if_neg h]
    by_cases h2 : (expo r z t).toNat % z.toNat = 0
    · rw [if_pos h2, if_pos ⟨by omega, h2⟩]
    · rw [if_neg h2, if_neg (by omega)]
/-- The rate out of the decade below the cut. -/
theorem rateD_digits {r z t : Int} (hz : 1 ≤ z) (h : ¬ expo r z t < 0) (hp : (expo r z t).toNat % z.toNat ≠ 0) :
    (expo r z t).toNat / z.toNat ≤ 15 ∧ rateD r z t = rootN (15 * z.toNat + (expo r z t).toNat % z.toNat) z.toNat / 10 ^ (15 - (expo r z t).toNat / z.toNat) := by
  have hle := expo_le r z t
  rw [rateD_pos h]
  have hZ : 1 ≤ z.toNat := by omega
  have hE : (expo r z t).toNat ≤ 16 * z.toNat := by omega
  generalize (expo r z t).toNat = E at *
  generalize z.toNat = Z at *
  have hdm := Nat.div_add_mod E Z
  have hq : E / Z ≤ 15 := by
    rcases Nat.lt_or_ge 15 (E / Z) with h16 | h16
    · have : Z * 16 ≤ Z * (E / Z) := Nat.mul_le_mul_left _ h16
      omega
    · exact h16
  refine ⟨hq, ?_⟩
  rw [← root_shift E Z (15 - E / Z) hZ]
  congr 2
  have : (15 - E / Z) * Z + Z * (E / Z) = 15 * Z := by
    rw [Nat.mul_comm Z, ← Nat.add_mul]; congr 1; omega
  omega
theorem rateD_whole {r z t : Int} (hz : 1 ≤ z) (h : ¬ expo r z t < 0) (hp : (expo r z t).toNat % z.toNat = 0) : rateD r z t = 10 ^ ((expo r z t).toNat / z.toNat) := by
  rw [rateD_pos h]
  conv => lhs; rw [← Nat.div_add_mod (expo r z t).toNat z.toNat, hp, Nat.add_zero, Nat.mul_comm]
  exact root_whole _ _ (by omega)
theorem rateD_mono {r z t u : Int} (hz : 1 ≤ z) (h : t ≤ u) : rateD r z t ≤ rateD r z u := by
  have he : expo r z t ≤ expo r z u := by unfold expo; omega
  by_cases h1 : expo r z t < 0
  · rw [rateD_neg h1]; exact Nat.zero_le _
  · rw [rateD_pos h1, rateD_pos (by omega)]
    exact root_mono (by omega) (by omega)
end Go.Proofs.YtihbjimnjhfpeaaGreat.Lt.Pm

/- Walks of sort.Search over the root's test, and root, Root of package lethal: contracts. -/
namespace Go.Proofs.YtihbjimnjhfpeaaGreat.Lt
open Go.RowKit Go.Lib

/-- What sort.Search finds, whatever the test. -/
def Found (n : Nat) (p : Nat → Bool) (r : Nat) : Prop := r ≤ n ∧ (r = 0 ∨ p (r - 1) = false) ∧ (r = n ∨ p r = true)
def SearchP (n : Nat) (p : Nat → Bool) (S : World → Prop) (e : Ending) (w' : World) : Prop := ∃ r : Nat, e = .returned (.int .i64 r) ∧ Found n p r ∧ S w'
structure Span (n : Nat) (p : Nat → Bool) (i j : Nat) : Prop where
  le : i ≤ j
  top : j ≤ n
  low : i = 0 ∨ p (i - 1) = false
  high : j = n ∨ p j = true
theorem Span.up {n : Nat} {p : Nat → Bool} {i j h : Nat} (s : Span n p i j) (h2 : h < j) (hp : p h = false) : Span n p (h + 1) j := ⟨h2, s.top, .inr hp, s.high⟩
theorem Span.down {n : Nat} {p : Nat → Bool} {i j h : Nat} (s : Span n p i j) (h1 : i ≤ h) (h2 : h < j) (hp : p h = true) : Span n p i h := ⟨h1, by have := s.top; omega, s.low, .inr hp⟩

set_option maxHeartbeats 1000000 in
theorem search_root (n : Nat) (p : Nat → Bool) (S : World → Prop) (c1 c2 c3 : Value) (w : World) (hn : n ≤ 4000000000000000000) (hS : S w)
    (hcall : ∀ (m : Nat) (wr : World), m < n → S wr → Calls Tryz.prog 184 #[.int .i64 m, c1, c2, c3] wr fun e w' => e = .returned (.bool (p m)) ∧ S w') :
    Calls Tryz.prog 173 #[.int .i64 n, .func (.func 184) #[] #[c1, c2, c3]] w (SearchP n p S) := by
  have HC := hid hcall; clear hcall
  have HS := hid hS; clear hS
  go_enter Tryz.func173, Tryz.ntmps173
  go_wp2
  go_loopw [5, 6] (fun a b wr => ∃ i j : Nat, a = .int .i64 i ∧ b = .int .i64 j ∧ Hid (Span n p i j) ∧ Hid (S wr)) (fun a b _ => (intOf b - intOf a).toNat)
  case atStart => exact ⟨0, n, rfl, rfl, ⟨Nat.zero_le _, Nat.le_refl _, .inl rfl, .inl rfl⟩, HS⟩
  case round =>
    obtain ⟨i, j, rfl, rfl, hs, hS⟩ := hrel
    have hij := hs.out.le
    have hjn := hs.out.top
    by_cases hlt : i < j
    · obtain ⟨m, hm⟩ : ∃ m, m = (i + j) / 2 := ⟨_, rfl⟩
      have hm1 : i ≤ m := by omega
      have hm2 : m < j := by omega
      have HM : Hid (((i : Int) + j) / 2 = (m : Int)) := by unfold Hid; omega
      clear hm
      cases hp : p m
      · have HP := hid hp
        go_wp2_with (go_at_call 184; rw [HM.out]; refine (HC.out m _ (by omega) hS.out).mono ?_; rintro e w2 ⟨rfl, hS2⟩)
        go_roundw
        case rel => exact ⟨m + 1, j, by go_num, rfl, hs.out.up hm2 HP.out, hS2⟩
        case measure => simp [intOf]; omega
      · have HP := hid hp
        go_wp2_with (go_at_call 184; rw [HM.out]; refine (HC.out m _ (by omega) hS.out).mono ?_; rintro e w2 ⟨rfl, hS2⟩)
        go_roundw
        case rel => exact ⟨i, m, rfl, rfl, hs.out.down hm1 hm2 HP.out, hS2⟩
        case measure => simp [intOf]; omega
    · obtain rfl : i = j := by omega
      go_wp2
      go_ret
      exact ⟨i, rfl, ⟨hs.out.top, hs.out.low, hs.out.high⟩, hS.out⟩
end Go.Proofs.YtihbjimnjhfpeaaGreat.Lt
