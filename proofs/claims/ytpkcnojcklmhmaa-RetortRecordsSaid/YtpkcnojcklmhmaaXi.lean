/- Plain facts of a run that begins: its record is valid, whole and vented. -/
import Derived.Test.YtpkcnojcklmhmaaXa
import Derived.Test.YtpkcnojcklmhmaaYm
namespace Go.Proofs.Ytpkcnojcklmhmaa
open Go.RowKit

theorem next_step (J : Jb) (y : Ld) : (J.next y).step = (if J.over y then y.step + 1 else y.step) := rfl
theorem next_gone (J : Jb) (y : Ld) : (J.next y).gone = (if J.over y then 0 else y.gone + 1) := rfl
theorem step_two (J : Jb) (x : Ld) (k : Nat) : (J.over (J.lds x k) = true ∧ (J.lds x (k + 1)).step = (J.lds x k).step + 1 ∧ (J.lds x (k + 1)).gone = 0) ∨ (J.over (J.lds x k) = false ∧ (J.lds x (k + 1)).step = (J.lds x k).step ∧ (J.lds x (k + 1)).gone = (J.lds x k).gone + 1) := by
  have e1 : (J.lds x (k + 1)).step = (if J.over (J.lds x k) then (J.lds x k).step + 1 else (J.lds x k).step) := rfl
  have e2 : (J.lds x (k + 1)).gone = (if J.over (J.lds x k) then 0 else (J.lds x k).gone + 1) := rfl
  cases h : J.over (J.lds x k)
  · rw [h] at e1 e2; exact .inr ⟨rfl, e1, e2⟩
  · rw [h] at e1 e2; exact .inl ⟨rfl, e1, e2⟩
theorem rds_t (J : Jb) (x : Ld) (k : Nat) : (J.rds x k).t = (J.lds x (k + 1)).temp := rfl
theorem rds_s (J : Jb) (x : Ld) (k : Nat) : (J.rds x k).s = (J.lds x k).step := rfl
/-- A run that begins with nothing gone, and is done after K ticks. -/
structure Beg (J : Jb) (x : Ld) (K : Nat) : Prop where
  ok : J.Ok
  lok : J.LOk x
  st : J.Stops x K
  s0 : x.step = 0
  g0 : x.gone = 0
  fin : (J.lds x K).step = (J.m : Int)
section
variable {J : Jb} {x : Ld} {K : Nat}
theorem Beg.at_ (h : Beg J x K) {k : Nat} (hk : k ≤ K) : J.LOk (J.lds x k) := h.lok.lds h.ok k (fun j hj => h.st.live j (by omega))
theorem Beg.lt (h : Beg J x K) {k : Nat} (hk : k < K) : (J.lds x k).step < (J.m : Int) := (Jb.live_iff.1 (h.st.live k hk)).1
theorem Beg.prog (h : Beg J x K) : progB J.m J.P = true := progB_iff.2 ⟨by have := h.ok.m; omega, h.ok.prog⟩
theorem Beg.air (h : Beg J x K) {k : Nat} (hk : k < K) : 0 ≤ upN J.p (J.air (J.lds x k)) ∧ upN J.p (J.air (J.lds x k)) ≤ 50000 := by
  have ha : 0 ≤ J.air (J.lds x k) ∧ J.air (J.lds x k) ≤ 1000 := (h.at_ (k := k + 1) (by omega)).air
  have hp := h.ok.p
  exact upN_bd hp.1 hp.2 ha.1 ha.2
theorem Beg.bath (h : Beg J x K) {k : Nat} (hk : k < K) : (J.rds x k).b ≤ (J.rds x k).t := by
  have := (h.air hk).1
  show J.temp (J.lds x k) - upN J.p (J.air (J.lds x k)) ≤ J.temp (J.lds x k)
  omega
theorem Beg.recd (h : Beg J x K) : recB J.m J.P K (J.rds x) = true := by
  refine recB_iff.2 ⟨h.prog, h.st.le, fun j hj => ?_⟩
  have ht := (h.at_ (k := j + 1) (by omega)).temp
  have ha := h.air hj
  have hc := h.ok.ch
  have hl := h.lt hj
  have hst := (h.at_ (k := j) (by omega)).step
  have e1 : (J.rds x j).t = (J.lds x (j + 1)).temp := rfl
  have e2 : (J.rds x j).c = (J.lds x (j + 1)).temp + J.ch := rfl
  have e3 : (J.rds x j).b = (J.lds x (j + 1)).temp - upN J.p (J.air (J.lds x j)) := rfl
  simp only [recAt, readB, Bool.and_eq_true, inB_iff]
  refine ⟨?_, ⟨⟨by omega, by omega⟩, by omega, by omega⟩, by omega, by omega⟩
  match j, hj, hl, hst with
  | 0, _, hl, _ =>
    have e0 : (J.rds x 0).s = 0 := h.s0
    rw [e0]; exact ⟨Int.le_refl 0, Int.le_refl 0⟩
  | i + 1, _, hl, _ =>
    have h1 := step_two J x i
    have e4 := rds_s J x (i + 1)
    have e5 := rds_s J x i
    show (J.rds x i).s ≤ (J.rds x (i + 1)).s ∧ (J.rds x (i + 1)).s ≤ min ((J.rds x i).s + 1) ((J.m : Int) - 1)
    rw [e4, e5]
    rcases h1 with ⟨_, h1, _⟩ | ⟨_, h1, _⟩ <;> omega
theorem Beg.whole (h : Beg J x K) : wholeB J.m J.P K (J.rds x) = true := by
  unfold wholeB
  have hm := h.ok.m
  have hf := h.fin
  rw [h.recd, Bool.true_and, Bool.and_eq_true, decide_eq_true_iff, decide_eq_true_iff]
  match K, h, hf with
  | 0, h, hf => exact absurd (show x.step = (J.m : Int) from hf) (by rw [h.s0]; omega)
  | k + 1, h, hf =>
    have h1 := step_two J x k
    have h2 := h.lt (k := k) (by omega)
    refine ⟨by omega, ?_⟩
    rw [Nat.add_sub_cancel, rds_s]
    rcases h1 with ⟨_, h1, _⟩ | ⟨_, h1, _⟩ <;> omega
/-- The stretch of a step, as far as it goes. -/
theorem stretch (h : Beg J x K) : ∀ k, ∃ f, f ≤ k ∧ (∀ j, f ≤ j → j ≤ k → (J.lds x j).step = (J.lds x k).step) ∧ (∀ j, j < f → (J.lds x j).step < (J.lds x k).step) ∧ (J.lds x k).gone = (k : Int) - f
  | 0 => ⟨0, Nat.le_refl _, fun j _ h2 => by rw [show j = 0 by omega], fun j hj => absurd hj (Nat.not_lt_zero _), by show x.gone = _; rw [h.g0]; rfl⟩
  | k + 1 => by
    obtain ⟨f, h1, h2, h3, h4⟩ := stretch h k
    rcases step_two J x k with ⟨_, e1, e2⟩ | ⟨_, e1, e2⟩
    · refine ⟨k + 1, Nat.le_refl _, fun j g1 g2 => by rw [show j = k + 1 by omega], fun j hj => ?_, by rw [e2]; omega⟩
      rcases Nat.lt_or_ge j f with g | g
      · have := h3 j g; omega
      · have := h2 j g (by omega); omega
    · refine ⟨f, by omega, fun j g1 g2 => ?_, fun j hj => by have := h3 j hj; omega, by rw [e2]; omega⟩
      rcases Nat.lt_or_ge k j with g | g
      · rw [show j = k + 1 by omega]
      · rw [e1]; exact h2 j g1 g
/-- A step that is passed is left somewhere. -/
theorem leaves (J : Jb) (x : Ld) (i : Int) (h0 : x.step ≤ i) : ∀ K, i < (J.lds x K).step → ∃ k, k < K ∧ (J.lds x k).step ≤ i ∧ i < (J.lds x (k + 1)).step
  | 0, h => absurd h (by show ¬ i < x.step; omega)
  | K + 1, h => by
    by_cases g : i < (J.lds x K).step
    · obtain ⟨k, h1, h2, h3⟩ := leaves J x i h0 K g
      exact ⟨k, by omega, h2, h3⟩
    · exact ⟨K, by omega, by omega, h⟩
theorem Beg.vented (h : Beg J x K) (i : Nat) (hi : i < J.m) : VentOk J.P K (J.rds x) i := by
  intro hk1
  obtain ⟨k, hk, h1, h2⟩ := leaves J x i (by rw [h.s0]; omega) K (by rw [h.fin]; omega)
  have hs := step_two J x k
  have hov : J.over (J.lds x k) = true ∧ (J.lds x k).step = (i : Int) ∧ (J.lds x (k + 1)).step = (i : Int) + 1 := by
    rcases hs with ⟨a, b, _⟩ | ⟨a, b, _⟩
    · exact ⟨a, by omega, by omega⟩
    · omega
  obtain ⟨ho, e1, e2⟩ := hov
  obtain ⟨f, g1, g2, g3, g4⟩ := stretch h k
  have ho' : ovB (J.P i).k (J.P i).s (J.P i).n (J.temp (J.lds x k)) ((J.lds x k).gone + 1) = true := by
    have : (J.lds x k).step.toNat = i := by omega
    unfold Jb.over at ho
    rw [this] at ho
    exact ho
  rw [hk1] at ho'
  unfold ovB at ho'
  simp only [if_pos, Bool.and_eq_true, decide_eq_true_iff] at ho'
  refine ⟨f, k + 1, ⟨by omega, by omega, fun j hj => ?_, .inr ?_, fun j j1 j2 => ?_, ?_⟩, by omega, ?_, ?_⟩
  · rw [rds_s]; have := g3 j hj; omega
  · rw [rds_s, g2 f (Nat.le_refl _) g1, e1]
  · rw [rds_s, g2 j j1 (by omega), e1]
  · rcases Nat.lt_or_ge (k + 1) K with g | g
    · right; rw [rds_s, e2]; omega
    · left; omega
  · have := ho'.2; omega
  · rw [Nat.add_sub_cancel]; exact ho'.1
/-- No faults, and cooks right behind a heating to the same. -/
def steadyP (J : Jb) : Prop := J.n = 0 ∧ ∀ i, i < J.m → (J.P i).k = 3 → 0 < i ∧ (J.P (i - 1)).k = 2 ∧ (J.P (i - 1)).s = (J.P i).s
theorem Beg.warm (h : Beg J x K) (hs : steadyP J) : ∀ k, k < K → (J.P (J.lds x k).step.toNat).k = 3 → (J.P (J.lds x k).step.toNat).s ≤ (J.lds x k).temp
  | 0, hk, h3 => by
    have e : (J.lds x 0).step.toNat = 0 := by show x.step.toNat = 0; rw [h.s0]; rfl
    rw [e] at h3
    have := (hs.2 0 (by have := h.ok.m; omega) h3).1
    omega
  | k + 1, hk, h3 => by
    have hlk := h.lt (k := k) (by omega)
    have hlk1 := h.lt hk
    have hst := (h.at_ (k := k) (by omega)).step
    rcases step_two J x k with ⟨o, e1, _⟩ | ⟨o, e1, _⟩
    · have e : (J.lds x (k + 1)).step.toNat = (J.lds x k).step.toNat + 1 := by omega
      rw [e] at h3 ⊢
      obtain ⟨_, q1, q2⟩ := hs.2 _ (by omega) h3
      rw [Nat.add_sub_cancel] at q1 q2
      unfold Jb.over at o
      rw [q1] at o
      unfold ovB at o
      rw [if_neg (by omega), if_pos rfl, decide_eq_true_iff, q2] at o
      exact o
    · have e : (J.lds x (k + 1)).step.toNat = (J.lds x k).step.toNat := by rw [e1]
      rw [e] at h3 ⊢
      have ih := h.warm hs k (by omega) h3
      have haim : J.aim (J.lds x k) = (J.P (J.lds x k).step.toNat).s := by unfold Jb.aim; rw [hs.1]; rfl
      have hsb := (Jb.stepB_bd (h.ok.prog _ (Jb.at_lt (h.at_ (k := k) (by omega)) hlk).1)).2
      have ht := (h.at_ (k := k) (by omega)).temp
      have hc := (chN_bd (h := J.h) (c := J.c) (d := J.aim (J.lds x k) - (J.lds x k).temp) (by omega) (by omega) h.ok.h.1 h.ok.h.2 h.ok.c.1 h.ok.c.2).2 (by omega)
      show _ ≤ (J.lds x k).temp + chN J.h J.c (J.aim (J.lds x k) - (J.lds x k).temp)
      omega
theorem Beg.steady (h : Beg J x K) (hs : steadyP J) : ∀ k, k ≤ K → devL J.P (J.rds x) k = []
  | 0, _ => rfl
  | k + 1, hk => by
    have hc : coldB J.P (J.rds x k) = false := by
      unfold coldB
      rw [rds_s]
      by_cases h3 : (J.P (J.lds x k).step.toNat).k = 3
      · have hw := h.warm hs k (by omega) h3
        have hlk := h.lt (k := k) (by omega)
        have haim : J.aim (J.lds x k) = (J.P (J.lds x k).step.toNat).s := by unfold Jb.aim; rw [hs.1]; rfl
        have hsb := (Jb.stepB_bd (h.ok.prog _ (Jb.at_lt (h.at_ (k := k) (by omega)) hlk).1)).2
        have ht := (h.at_ (k := k) (by omega)).temp
        have hcb := (chN_bd (h := J.h) (c := J.c) (d := J.aim (J.lds x k) - (J.lds x k).temp) (by omega) (by omega) h.ok.h.1 h.ok.h.2 h.ok.c.1 h.ok.c.2).2 (by omega)
        have e : (J.rds x k).t = (J.lds x k).temp + chN J.h J.c (J.aim (J.lds x k) - (J.lds x k).temp) := rfl
        rw [decide_eq_false (show ¬ (J.rds x k).t < (J.P (J.lds x k).step.toNat).s by omega), Bool.and_false]
      · rw [decide_eq_false h3, Bool.false_and]
    rw [dev_no hc]
    exact Beg.steady h hs k (by omega)
end
end Go.Proofs.Ytpkcnojcklmhmaa
