/- Walks of ValidVessel, ValidFaults, ValidLoad and valid of package retort: contracts. -/
import Derived.Test.YtpkcnojcklmhmaaVh
import Derived.Test.YtpkcnojcklmhmaaVn
namespace Go.Proofs.Ytpkcnojcklmhmaa
open Go.RowKit

structure Ld where
  tick : Int
  step : Int
  gone : Int
  temp : Int
  air : Int
theorem six (a b c d e f : Bool) : a = false ∨ (a = true ∧ b = false) ∨ (a = true ∧ b = true ∧ c = false) ∨ (a = true ∧ b = true ∧ c = true ∧ d = false) ∨ (a = true ∧ b = true ∧ c = true ∧ d = true ∧ e = false) ∨ (a = true ∧ b = true ∧ c = true ∧ d = true ∧ e = true ∧ f = false) ∨ (a = true ∧ b = true ∧ c = true ∧ d = true ∧ e = true ∧ f = true) := by
  cases a <;> cases b <;> cases c <;> cases d <;> cases e <;> cases f <;> simp
/-- A vessel that is valid. -/
def vesB (s : ByteArray) (h c v p ch : Int) : Bool := nameB s.data.toList && (inB h 1 1000 && (inB c 1 1000 && (inB v 1 1000 && (inB p 0 50000 && inB ch (-5000) 5000))))
theorem vesB_eq (s : ByteArray) (h c v p ch : Int) : vesB s h c v p ch = (nameB s.data.toList && (inB h 1 1000 && (inB c 1 1000 && (inB v 1 1000 && (inB p 0 50000 && inB ch (-5000) 5000))))) := rfl
set_option maxHeartbeats 4000000 in
theorem vves_any (s : ByteArray) (h c v p ch : Int) (w : World) (hs : s.size ≤ maxLen) :
    Calls Try.prog 96 #[.agg #[.string s, .int .i64 h, .int .i64 c, .int .i64 v, .int .i64 p, .int .i64 ch]] w fun e w' => e = .returned (.bool (vesB s h c v p ch)) ∧ Below w.heap.size w w' := by
  have hc := hid (vesB_eq s h c v p ch)
  have HS := hid hs
  clear hs
  rcases six (nameB s.data.toList) (inB h 1 1000) (inB c 1 1000) (inB v 1 1000) (inB p 0 50000) (inB ch (-5000) 5000) with h1 | ⟨h1, h2⟩ | ⟨h1, h2, h3⟩ | ⟨h1, h2, h3, h4⟩ | ⟨h1, h2, h3, h4, h5⟩ | ⟨h1, h2, h3, h4, h5, h6⟩ | ⟨h1, h2, h3, h4, h5, h6⟩
  all_goals
    go_enter Try.func96, Try.ntmps96
    go_wp2_with (first | (go_at_call 78; refine (vwithin_any _ _ _ _).mono ?_; rintro e w' ⟨rfl, rfl⟩) | (go_at_call 118; refine (lname_any _ _ HS.out).mono ?_; rintro e w' ⟨rfl, rfl⟩))
    go_ret
    exact ⟨ret_bool (by rw [hc.out]; simp only [Bool.false_and, Bool.true_and, *]), (Below.refl _ _).alloc (Nat.le_refl _) _⟩
set_option maxHeartbeats 4000000 in
theorem xves_any (s : ByteArray) (h c v p ch : Int) (w : World) (hs : s.size ≤ maxLen) :
    Calls Try.prog 100 #[.agg #[.string s, .int .i64 h, .int .i64 c, .int .i64 v, .int .i64 p, .int .i64 ch]] w fun e w' => e = .returned (.bool (vesB s h c v p ch)) ∧ Below w.heap.size w w' := by
  have hc := hid (vesB_eq s h c v p ch)
  have HS := hid hs
  clear hs
  rcases six (nameB s.data.toList) (inB h 1 1000) (inB c 1 1000) (inB v 1 1000) (inB p 0 50000) (inB ch (-5000) 5000) with h1 | ⟨h1, h2⟩ | ⟨h1, h2, h3⟩ | ⟨h1, h2, h3, h4⟩ | ⟨h1, h2, h3, h4, h5⟩ | ⟨h1, h2, h3, h4, h5, h6⟩ | ⟨h1, h2, h3, h4, h5, h6⟩
  all_goals
    go_enter Try.func100, Try.ntmps100
    go_wp2_with (first | (go_at_call 120; refine (xwithin_any _ _ _ _).mono ?_; rintro e w' ⟨rfl, rfl⟩) | (go_at_call 119; refine (rname_any _ _ HS.out).mono ?_; rintro e w' ⟨rfl, rfl⟩))
    go_ret
    exact ⟨ret_bool (by rw [hc.out]; simp only [Bool.false_and, Bool.true_and, *]), (Below.refl _ _).alloc (Nat.le_refl _) _⟩

/-- Faults that are valid. -/
def fB (q : Tri) : Bool := inB q.y 1 100000000 && (inB q.x 0 (q.y - 1) && inB q.z 0 200000)
def fltB (n : Nat) (q : Nat → Tri) : Bool := decide (n ≤ 16) && allB n fun i => fB (q i)
theorem fB_eq (x y z : Int) : fB ⟨x, y, z⟩ = (inB y 1 100000000 && (inB x 0 (y - 1) && inB z 0 200000)) := rfl
theorem fltB_long {n : Nat} {q : Nat → Tri} (h : 16 < n) : fltB n q = false := by unfold fltB; rw [decide_eq_false (by omega)]; rfl
theorem fltB_bad {n i : Nat} {q : Nat → Tri} (hi : i < n) (h : fB (q i) = false) : fltB n q = false := by
  unfold fltB
  rw [allB_bad (p := fun i => fB (q i)) hi h, Bool.and_false]
theorem fltB_end {n : Nat} {q : Nat → Tri} (h : n ≤ 16) (g : ∀ j, j < n → fB (q j) = true) : fltB n q = true := by
  unfold fltB
  rw [decide_eq_true h, allB_end (p := fun i => fB (q i)) g]; rfl
theorem three (a b c : Bool) : a = false ∨ (a = true ∧ b = false) ∨ (a = true ∧ b = true ∧ c = false) ∨ (a = true ∧ b = true ∧ c = true) := by cases a <;> cases b <;> cases c <;> simp
set_option maxHeartbeats 4000000 in
theorem vflt_any (v : Value) (n : Nat) (q : Nat → Tri) (w : World) (hr : RowT w v n q) : Calls Try.prog 97 #[v] w fun e w' => e = .returned (.bool (fltB n q)) ∧ Below w.heap.size w w' := by
  have HK := hid (fun w1 (g : Below w.heap.size w w1) => hr.keep g)
  obtain ⟨a, b, o, cap, rfl, hc, hm, ha, _⟩ := hr
  have HA := hid ha
  have hnm : n ≤ 9223372036854775807 := by unfold maxLen at hm; omega
  clear ha hm
  by_cases h1 : 16 < n
  · have hd : decide (16 < (n : Int)) = true := by simp; omega
    have hE := hid (fltB_long (q := q) h1)
    go_enter Try.func97, Try.ntmps97
    go_wp2
    go_ret
    exact ⟨ret_bool hE.out.symm, Below.refl _ _⟩
  have hd : decide (16 < (n : Int)) = false := by simp; omega
  have H1 := hid (show n ≤ 16 by omega)
  clear h1
  go_enter Try.func97, Try.ntmps97
  go_wp2
  go_loopw [10] (fun t wr => ∃ k : Nat, k ≤ n ∧ t = .int .i64 (k : Int) ∧ Hid (∀ j, j < k → fB (q j) = true) ∧ Hid (Below w.heap.size w wr)) (fun t _ => n - (intOf t).toNat)
  case atStart => exact ⟨0, Nat.zero_le _, rfl, fun j h => absurd h (Nat.not_lt_zero _), Below.refl _ _⟩
  case round =>
    obtain ⟨k, hk, rfl, hok, hB⟩ := hrel
    by_cases hlt : k < n
    · have hlt' : (k : Int) < n := by omega
      obtain ⟨a', b', o', cap', hv, _, _, ha', hcell⟩ := HK.out _ hB.out
      injection hv with hv1 hv2 hv3
      subst hv1 hv3
      rcases ha' with h0 | rfl
      · omega
      obtain ⟨c0, c1, c2⟩ := hcell k hlt
      have HB2 := hid (hB.out.alloc hB.out.size (.cells #[.int .i64 (q k).x, .int .i64 (q k).y, .int .i64 (q k).z] 144))
      clear hcell hv2
      have HE := hid (fB_eq (q k).x (q k).y (q k).z)
      have HST := hid (fun h => all_step (p := fun j => fB (q j)) hok.out (k := k) h)
      have HBAD := hid (fun h => fltB_bad (q := q) hlt h)
      have HQ := hid (show q k = ⟨(q k).x, (q k).y, (q k).z⟩ from rfl)
      rw [HQ.out] at HST HBAD
      clear hlt HQ
      generalize (q k).x = x at c0 HB2 HE HST HBAD
      generalize (q k).y = y at c1 HB2 HE HST HBAD
      generalize (q k).z = z at c2 HB2 HE HST HBAD
      cases h1 : inB y 1 100000000
      · have HF := hid (HBAD.out (by rw [HE.out, h1]; rfl))
        go_wp2_with (go_at_call 78; refine (vwithin_any _ _ _ _).mono ?_; rintro e w' ⟨rfl, rfl⟩)
        go_ret
        exact ⟨ret_bool HF.out.symm, HB2.out⟩
      have hy := inB_iff.1 h1
      obtain ⟨hy1, hy2⟩ := hy
      rcases three true (inB x 0 (y - 1)) (inB z 0 200000) with h | ⟨_, h2⟩ | ⟨_, h2, h3⟩ | ⟨_, h2, h3⟩
      · cases h
      · have HF := hid (HBAD.out (by rw [HE.out, h1, h2]; rfl))
        go_wp2_with (go_at_call 78; refine (vwithin_any _ _ _ _).mono ?_; rintro e w' ⟨rfl, rfl⟩)
        go_ret
        exact ⟨ret_bool HF.out.symm, HB2.out⟩
      · have HF := hid (HBAD.out (by rw [HE.out, h1, h2, h3]; rfl))
        go_wp2_with (go_at_call 78; refine (vwithin_any _ _ _ _).mono ?_; rintro e w' ⟨rfl, rfl⟩)
        go_ret
        exact ⟨ret_bool HF.out.symm, HB2.out⟩
      · have HF := hid (HST.out (by rw [HE.out, h1, h2, h3]; rfl))
        go_wp2_with (go_at_call 78; refine (vwithin_any _ _ _ _).mono ?_; rintro e w' ⟨rfl, rfl⟩)
        go_roundw
        case rel => exact ⟨k + 1, by omega, by go_num, HF, HB2⟩
        case measure => simp [intOf]; omega
    · obtain rfl : k = n := by omega
      have hE := hid (fltB_end H1.out hok.out)
      go_wp2
      go_ret
      exact ⟨ret_bool hE.out.symm, hB.out⟩

/-- A load that is valid for a program. -/
def topG (m : Nat) (x : Ld) : Int := if x.step = m then 0 else x.tick
def ldB (m : Nat) (p : Nat → St) (x : Ld) : Bool := progB m p && (inB x.step 0 m && (inB x.tick 0 100000000 && (inB x.gone 0 (topG m x) && (inB x.temp (-50000) 200000 && inB x.air 0 1000))))
theorem ldB_eq (m : Nat) (p : Nat → St) (t s g c a : Int) : ldB m p ⟨t, s, g, c, a⟩ = (progB m p && (inB s 0 m && (inB t 0 100000000 && (inB g 0 (topG m ⟨t, s, g, c, a⟩) && (inB c (-50000) 200000 && inB a 0 1000))))) := rfl
theorem Box1.five {w w1 : World} {c0 c1 c2 c3 c4 : Value} (h : Box1 w w1 #[c0, c1, c2, c3, c4]) :
    w1.cell? ⟨w.heap.size, 0, none⟩ = some c0 ∧ w1.cell? ⟨w.heap.size, 1, none⟩ = some c1 ∧ w1.cell? ⟨w.heap.size, 2, none⟩ = some c2 ∧ w1.cell? ⟨w.heap.size, 3, none⟩ = some c3 ∧ w1.cell? ⟨w.heap.size, 4, none⟩ = some c4 :=
  ⟨h.fst 0, h.fst 1, h.fst 2, h.fst 3, h.fst 4⟩
set_option maxHeartbeats 4000000 in
theorem vld_any (v : Value) (m : Nat) (p : Nat → St) (t s g c a : Int) (w : World) (hr : RowP w v m p) :
    Calls Try.prog 98 #[v, .agg #[.int .i64 t, .int .i64 s, .int .i64 g, .int .i64 c, .int .i64 a]] w fun e w' => e = .returned (.bool (ldB m p ⟨t, s, g, c, a⟩)) ∧ Below w.heap.size w w' := by
  have HK := hid (fun w1 (g : Below w.heap.size w w1) => hr.keep g)
  have hnm := hr.most
  unfold maxLen at hnm
  obtain ⟨a0, cap, rfl⟩ := hr.shape
  clear hr
  have hc := hid (ldB_eq m p t s g c a)
  have BX := hid (box1_start (w := w) (A := #[.int .i64 t, .int .i64 s, .int .i64 g, .int .i64 c, .int .i64 a]) (T := 57) (fz := (0, 0)))
  by_cases hsm : s = m
  · have htop : topG m ⟨t, s, g, c, a⟩ = 0 := by unfold topG; rw [if_pos hsm]
    rw [htop] at hc
    have hsd : (s == (m : Int)) = true := by simpa using hsm
    clear htop
    obtain rfl := hsm
    rcases six (progB m p) (inB (m : Int) 0 m) (inB t 0 100000000) (inB g 0 0) (inB c (-50000) 200000) (inB a 0 1000) with h1 | ⟨h1, h2⟩ | ⟨h1, h2, h3⟩ | ⟨h1, h2, h3, h4⟩ | ⟨h1, h2, h3, h4, h5⟩ | ⟨h1, h2, h3, h4, h5, h6⟩ | ⟨h1, h2, h3, h4, h5, h6⟩
    all_goals
      go_enter Try.func98, Try.ntmps98
      go_wp2_with (first | (go_at_call 78; refine (vwithin_any _ _ _ _).mono ?_; rintro e w' ⟨rfl, rfl⟩) | (go_at_call 81; refine (vprog_any _ _ _ _ (HK.out _ BX.out.low)).mono ?_; rintro e w1 ⟨rfl, hb⟩; have BX := hid (BX.out.keep hb); obtain ⟨b0, b1, b2, b3, b4⟩ := BX.out.five; clear hb))
      go_ret
      exact ⟨ret_bool (by rw [hc.out]; simp only [Bool.false_and, Bool.true_and, *]), BX.out.low⟩
  · have htop : topG m ⟨t, s, g, c, a⟩ = t := by unfold topG; rw [if_neg hsm]
    rw [htop] at hc
    have hsd : (s == (m : Int)) = false := by simpa using hsm
    clear htop hsm
    rcases six (progB m p) (inB s 0 m) (inB t 0 100000000) (inB g 0 t) (inB c (-50000) 200000) (inB a 0 1000) with h1 | ⟨h1, h2⟩ | ⟨h1, h2, h3⟩ | ⟨h1, h2, h3, h4⟩ | ⟨h1, h2, h3, h4, h5⟩ | ⟨h1, h2, h3, h4, h5, h6⟩ | ⟨h1, h2, h3, h4, h5, h6⟩
    all_goals
      go_enter Try.func98, Try.ntmps98
      go_wp2_with (first | (go_at_call 78; refine (vwithin_any _ _ _ _).mono ?_; rintro e w' ⟨rfl, rfl⟩) | (go_at_call 81; refine (vprog_any _ _ _ _ (HK.out _ BX.out.low)).mono ?_; rintro e w1 ⟨rfl, hb⟩; have BX := hid (BX.out.keep hb); obtain ⟨b0, b1, b2, b3, b4⟩ := BX.out.five; clear hb))
      go_ret
      exact ⟨ret_bool (by rw [hc.out]; simp only [Bool.false_and, Bool.true_and, *]), BX.out.low⟩
end Go.Proofs.Ytpkcnojcklmhmaa
