/- Plain facts of Run: the loads and readings behind each tick. -/
import Derived.Test.YtpkcnojcklmhmaaVm
namespace Go.Proofs.Ytpkcnojcklmhmaa
open Go.RowKit

/-- A vessel, a program, faults. -/
structure Jb where
  s : ByteArray
  h : Int
  c : Int
  v : Int
  p : Int
  ch : Int
  m : Nat
  P : Nat → St
  n : Nat
  q : Nat → Tri
namespace Jb
def aim (J : Jb) (x : Ld) : Int := aimK J.q x.tick (J.P x.step.toNat).s J.n
def temp (J : Jb) (x : Ld) : Int := x.temp + chN J.h J.c (J.aim x - x.temp)
def air (J : Jb) (x : Ld) : Int := airN (J.P x.step.toNat).k J.v x.air
def over (J : Jb) (x : Ld) : Bool := ovB (J.P x.step.toNat).k (J.P x.step.toNat).s (J.P x.step.toNat).n (J.temp x) (x.gone + 1)
/-- A load after a tick. -/
def next (J : Jb) (x : Ld) : Ld := ⟨x.tick + 1, if J.over x then x.step + 1 else x.step, if J.over x then 0 else x.gone + 1, J.temp x, J.air x⟩
/-- The reading of the tick. -/
def read (J : Jb) (x : Ld) : Rd := ⟨x.step, J.temp x, J.temp x + J.ch, J.temp x - upN J.p (J.air x)⟩
def lds (J : Jb) (x : Ld) : Nat → Ld
  | 0 => x
  | k + 1 => J.next (J.lds x k)
def rds (J : Jb) (x : Ld) (k : Nat) : Rd := J.read (J.lds x k)
def live (J : Jb) (x : Ld) : Bool := decide (x.step < (J.m : Int)) && decide (x.tick < 100000000)
structure Ok (J : Jb) : Prop where
  size : J.s.size ≤ maxLen
  h : 1 ≤ J.h ∧ J.h ≤ 1000
  c : 1 ≤ J.c ∧ J.c ≤ 1000
  v : 1 ≤ J.v ∧ J.v ≤ 1000
  p : 0 ≤ J.p ∧ J.p ≤ 50000
  ch : -5000 ≤ J.ch ∧ J.ch ≤ 5000
  m : 1 ≤ J.m ∧ J.m ≤ 16
  prog : ∀ j, j < J.m → stepB (J.P j) = true
  n : J.n ≤ 16
  flt : ∀ j, j < J.n → fB (J.q j) = true
structure LOk (J : Jb) (x : Ld) : Prop where
  step : 0 ≤ x.step ∧ x.step ≤ (J.m : Int)
  tick : 0 ≤ x.tick ∧ x.tick ≤ 100000000
  gone : 0 ≤ x.gone ∧ x.gone ≤ x.tick
  temp : -50000 ≤ x.temp ∧ x.temp ≤ 200000
  air : 0 ≤ x.air ∧ x.air ≤ 1000
/-- What a good job says. -/
theorem ok_of {J : Jb} {x : Ld} (hs : J.s.size ≤ maxLen) (h : goodB J.s J.h J.c J.v J.p J.ch J.m J.P J.n J.q x = true) : J.Ok ∧ J.LOk x := by
  rw [goodB_eq, Bool.and_eq_true, Bool.and_eq_true, vesB_eq] at h
  obtain ⟨h1, h2, h3⟩ := h
  obtain ⟨t, s, g, c, a⟩ := x
  rw [ldB_eq] at h3
  unfold fltB at h2
  simp only [Bool.and_eq_true, inB_iff, decide_eq_true_iff, allB_iff] at h1 h2 h3
  obtain ⟨hp, h31, h32, h33, h34, h35⟩ := h3
  obtain ⟨hm, hP⟩ := progB_iff.1 hp
  have htop : topG J.m ⟨t, s, g, c, a⟩ ≤ t := by
    unfold topG
    by_cases e : s = (J.m : Int)
    · rw [if_pos e]; exact h32.1
    · rw [if_neg e]; exact Int.le_refl _
  exact ⟨⟨hs, h1.2.1, h1.2.2.1, h1.2.2.2.1, h1.2.2.2.2.1, h1.2.2.2.2.2, by omega, hP, h2.1, h2.2⟩, ⟨h31, h32, ⟨h33.1, Int.le_trans h33.2 htop⟩, h34, h35⟩⟩
theorem live_iff {J : Jb} {x : Ld} : J.live x = true ↔ x.step < (J.m : Int) ∧ x.tick < 100000000 := by simp [live]
theorem live_no {J : Jb} {x : Ld} : J.live x = false ↔ ¬ (x.step < (J.m : Int) ∧ x.tick < 100000000) := by rw [← live_iff]; simp
theorem stepB_bd {y : St} (h : stepB y = true) : (1 ≤ y.k ∧ y.k ≤ 4) ∧ (0 ≤ y.s ∧ y.s ≤ 200000) := by
  unfold stepB at h
  simp only [Bool.and_eq_true, inB_iff] at h
  exact ⟨h.1.1, h.1.2⟩
theorem at_lt {J : Jb} {x : Ld} (hx : J.LOk x) (hl : x.step < (J.m : Int)) : x.step.toNat < J.m ∧ ((x.step.toNat : Nat) : Int) = x.step := by have := hx.step; omega
theorem aim_bd {J : Jb} {x : Ld} (hJ : J.Ok) (hx : J.LOk x) (hl : x.step < (J.m : Int)) : 0 ≤ J.aim x ∧ J.aim x ≤ 200000 := by
  have hs := (stepB_bd (hJ.prog _ (at_lt hx hl).1)).2
  exact aimK_bd hs.1 hs.2 hJ.flt J.n (Nat.le_refl _)
theorem LOk.next {J : Jb} {x : Ld} (hx : J.LOk x) (hJ : J.Ok) (hl : J.live x = true) : J.LOk (J.next x) := by
  obtain ⟨l1, l2⟩ := live_iff.1 hl
  obtain ⟨a1, a2⟩ := aim_bd hJ hx l1
  have ht := hx.temp; have hg := hx.gone; have ha := hx.air; have hs := hx.step; have hk := hx.tick
  have hc := chN_bd (h := J.h) (c := J.c) (d := J.aim x - x.temp) (by omega) (by omega) hJ.h.1 hJ.h.2 hJ.c.1 hJ.c.2
  have hT : -50000 ≤ J.temp x ∧ J.temp x ≤ 200000 := by
    unfold Jb.temp
    generalize chN J.h J.c (J.aim x - x.temp) = y at hc
    rcases Int.le_total 0 (J.aim x - x.temp) with h | h
    · have := hc.1 h; omega
    · have := hc.2 h; omega
  have hA : 0 ≤ J.air x ∧ J.air x ≤ 1000 := by
    unfold Jb.air airN
    have hu := upN_bd (a := x.air) (b := J.v) (m := x.air) ha.1 (Int.le_refl _) (by have := hJ.v; omega) hJ.v.2
    split <;> omega
  refine ⟨?_, ?_, ?_, hT, hA⟩
  · show 0 ≤ (if J.over x then x.step + 1 else x.step) ∧ (if J.over x then x.step + 1 else x.step) ≤ _
    split <;> omega
  · show 0 ≤ x.tick + 1 ∧ x.tick + 1 ≤ 100000000
    omega
  · show 0 ≤ (if J.over x then 0 else x.gone + 1) ∧ (if J.over x then 0 else x.gone + 1) ≤ x.tick + 1
    split <;> omega
theorem LOk.lds {J : Jb} {x : Ld} (hx : J.LOk x) (hJ : J.Ok) : ∀ k, (∀ j, j < k → J.live (J.lds x j) = true) → J.LOk (J.lds x k)
  | 0, _ => hx
  | k + 1, h => (LOk.lds hx hJ k (fun j hj => h j (by omega))).next hJ (h k (by omega))
theorem lds_tick (J : Jb) (x : Ld) : ∀ k, (J.lds x k).tick = x.tick + (k : Int)
  | 0 => by simp [Jb.lds]
  | k + 1 => by
    show (J.lds x k).tick + 1 = _
    rw [lds_tick J x k]; omega
/-- After how many ticks there is none more to make. -/
theorem stop_ex (J : Jb) (x : Ld) : ∃ M : Nat, (∀ k, k < M → J.live (J.lds x k) = true) ∧ J.live (J.lds x M) = false := by
  have h : ∀ (d k : Nat), 100000000 - (J.lds x k).tick ≤ (d : Int) → (∀ j, j < k → J.live (J.lds x j) = true) → ∃ M : Nat, (∀ k, k < M → J.live (J.lds x k) = true) ∧ J.live (J.lds x M) = false := by
    intro d
    induction d with
    | zero => exact fun k hk hj => ⟨k, hj, live_no.2 (by omega)⟩
    | succ d ih =>
      intro k hk hj
      cases e : J.live (J.lds x k) with
      | false => exact ⟨k, hj, e⟩
      | true =>
        refine ih (k + 1) ?_ ?_
        · have := lds_tick J x k; have := lds_tick J x (k + 1); omega
        · intro j hj'
          rcases Nat.lt_or_ge j k with h1 | h1
          · exact hj j h1
          · obtain rfl : j = k := by omega
            exact e
  exact h (100000000 - x.tick).toNat 0 (by show 100000000 - x.tick ≤ _; omega) (fun j hj => absurd hj (Nat.not_lt_zero _))
/-- Where Run stops: after K ticks. -/
structure Stops (J : Jb) (x : Ld) (K : Nat) : Prop where
  live : ∀ k, k < K → J.live (J.lds x k) = true
  le : K ≤ 2000
  end_ : K = 2000 ∨ J.live (J.lds x K) = false
theorem stops_ex (J : Jb) (x : Ld) : ∃ K, J.Stops x K := by
  obtain ⟨M, h1, h2⟩ := stop_ex J x
  by_cases h : M ≤ 2000
  · exact ⟨M, h1, h, .inr h2⟩
  · exact ⟨2000, fun k hk => h1 k (by omega), Nat.le_refl _, .inl rfl⟩
/-- Run's error. -/
def err (J : Jb) (y : Ld) : Int := if y.step = (J.m : Int) then 0 else if y.tick = 100000000 then 7 else 8
def endL (J : Jb) (y : Ld) : Ld := if y.step = (J.m : Int) then y else ⟨0, 0, 0, 0, 0⟩
def endN (J : Jb) (y : Ld) (K : Nat) : Nat := if y.step = (J.m : Int) then K else 0
theorem end_done {J : Jb} {y : Ld} (h : y.step = (J.m : Int)) (K : Nat) : J.err y = 0 ∧ J.endL y = y ∧ J.endN y K = K := by unfold err endL endN; simp only [if_pos h, and_self]
theorem end_late {J : Jb} {y : Ld} (h : y.step ≠ (J.m : Int)) (g : y.tick = 100000000) (K : Nat) : J.err y = 7 ∧ J.endL y = ⟨0, 0, 0, 0, 0⟩ ∧ J.endN y K = 0 := by unfold err endL endN; simp only [if_neg h, if_pos g, and_self]
theorem end_none {J : Jb} {y : Ld} (h : y.step ≠ (J.m : Int)) (g : y.tick ≠ 100000000) (K : Nat) : J.err y = 8 ∧ J.endL y = ⟨0, 0, 0, 0, 0⟩ ∧ J.endN y K = 0 := by unfold err endL endN; simp only [if_neg h, if_neg g, and_self]
end Jb
/-- A load's cells, a reading's cells. -/
def ldA (x : Ld) : Array Value := #[.int .i64 x.tick, .int .i64 x.step, .int .i64 x.gone, .int .i64 x.temp, .int .i64 x.air]
def rdA (x : Rd) : Array Value := #[.int .i64 x.s, .int .i64 x.t, .int .i64 x.c, .int .i64 x.b]
def rdL (x : Rd) : List Value := [.int .i64 x.s, .int .i64 x.t, .int .i64 x.c, .int .i64 x.b]
def rdvs (r : Nat → Rd) : Nat → List Value
  | 0 => []
  | k + 1 => rdvs r k ++ rdL (r k)
theorem rdvs_len (r : Nat → Rd) : ∀ k, (rdvs r k).length = k * 4
  | 0 => rfl
  | k + 1 => by simp only [rdvs, List.length_append, rdvs_len r k, rdL, List.length_cons, List.length_nil]; omega
theorem rdvs_at (r : Nat → Rd) : ∀ (k j i : Nat), j < k → i < 4 → (rdvs r k)[j * 4 + i]? = (rdL (r j))[i]?
  | k + 1, j, i, hj, hi => by
    rcases Nat.lt_or_ge j k with h | h
    · rw [rdvs, List.getElem?_append_left (by rw [rdvs_len]; omega)]
      exact rdvs_at r k j i h hi
    · obtain rfl : j = k := by omega
      rw [rdvs, List.getElem?_append_right (by rw [rdvs_len]; omega), rdvs_len, Nat.add_sub_cancel_left]
/-- A job's vessel as both read it. -/
def Jb.vA (J : Jb) (u z : Value) : Array Value := #[.string J.s, .int .i64 J.h, .int .i64 J.c, .int .i64 J.v, .int .i64 J.p, .int .i64 J.ch, u, z]
def Jb.wA (J : Jb) : Array Value := #[.string J.s, .int .i64 J.h, .int .i64 J.c, .int .i64 J.v, .int .i64 J.p, .int .i64 J.ch]
/-- What a tick hands back, told of a job. -/
def TkP (J : Jb) (x : Ld) (w : World) (e : Ending) (w' : World) : Prop := e = .returned (.tuple #[.agg (ldA (J.next x)), .agg (rdA (J.read x))]) ∧ Below w.heap.size w w'
theorem tkP_of {J : Jb} {t s g c a : Int} {w : World} {e : Ending} {w' : World} {st : Nat} (hs : (st : Int) = s)
    (h : TickP (J.P st).k (J.P st).s (J.P st).n J.v J.p J.ch t st g (c + chN J.h J.c (aimK J.q t (J.P st).s J.n - c)) a w e w') : TkP J ⟨t, s, g, c, a⟩ w e w' := by
  subst hs
  exact h
end Go.Proofs.Ytpkcnojcklmhmaa
