/- Lists of ints that come in, with their range; walk of QueueCrosses, given Inside. -/
import Derived.Test.YtikjgbfbbkmmcaaQxd
import Derived.ChangeSlices
import Derived.OpenShut
namespace Go.Proofs.Ytikjgbfbbkmmcaa
open Go.ChangeShapes Go.WideShapes Go.ChangeAt Go.RowKit Go.Joins Go.Deep

/-- A list of ints that came in. -/
def InN (w : World) (v : Value) (l : List Int) : Prop := RowI w v l ∧ ∀ x ∈ l, -9223372036854775808 ≤ x ∧ x ≤ 9223372036854775807
section
variable {H : Type} {enc : TypeId × Value → H} {w : World} {base : Nat} {spare : Nat → Bool} {held : Bool}
theorem cellsNn : Try.prog.cellsOf 3 = 1 := by kernel_rfl
set_option maxRecDepth 100000 in
theorem rowN_of {v : Value} {n : Nat} {y : DataW H × List MemPlace} (h : DataW.trod enc Try.prog w base spare held n 42 [v] = some y) : ∃ l : List Int, InN w v l := by
  rcases open_ints Try.underlying42 Try.underlying3 cellsNn h with ⟨hcs, hx⟩ | ⟨a, len', cap', zs, hcs, _, hl, hm, hz, hx, hcell, hwz⟩
  · simp at hcs
    subst hcs
    exact ⟨[], .inl ⟨_, _, rfl, rfl⟩, fun x h => absurd h (by simp)⟩
  · simp at hcs
    subst hcs
    have hz' : len' ≤ zs.length := by rw [hz]; split <;> omega
    clear hz
    by_cases hp : 0 < zs.length
    · obtain ⟨b, off, rfl⟩ := plain_ofE (hcell 0 hp)
      have hc := fun k hk => hcell k hk
      have ht : (zs.take len').length = len' := by rw [List.length_take]; omega
      refine ⟨zs.take len', .inr ⟨b, off, cap', by rw [ht], by rw [ht]; omega, fun k hk => ?_⟩, fun x hx => ?_⟩
      · rw [ht] at hk
        have h1 := hc k (by omega)
        rw [Go.WideShapes.add_plain] at h1
        rw [h1, List.getElem_take]
        simp [List.getD, show k < zs.length by omega]
      · have h1 := hwz x (List.mem_of_mem_take hx)
        exact bounds_i64 h1
    · obtain rfl : len' = 0 := by omega
      exact ⟨[], .inl ⟨_, _, rfl, rfl⟩, fun x h => absurd h (by simp)⟩
set_option maxRecDepth 100000 in
theorem open_rowN {r : Reach} {b0 : Nat} {v : Value} {d : DataW H} {p : List MemPlace} (hv : Value.okWide Try.prog w r b0 42 v) (h : DataW.Trod enc Try.prog w base spare held 42 v d p) :
    ∃ l : List Int, InN w v l := by
  obtain ⟨a0, len, cap, rfl⟩ := okWide_slice Try.underlying42 hv
  obtain ⟨fuel, hf⟩ := h
  exact rowN_of (v := .slice a0 len cap) hf
end
/-- What Inside of the program leaves. -/
def IdQ (l : List Int) (w : World) (e : Ending) (w' : World) : Prop := ∃ u, e = .returned (.tuple #[u, .int .i64 (insE l)]) ∧ RowI w' u ((crsK l l.length).getD []) ∧ Below w.heap.size w w'
set_option maxRecDepth 20000 in
set_option maxHeartbeats 4000000 in
theorem qcrosses_of (hQ : ∀ (v : Value) (l : List Int) (w : World), RowI w v l → (∀ x ∈ l, -9223372036854775808 ≤ x ∧ x ≤ 9223372036854775807) → l.length ≤ 100 → Calls Try.prog 29 #[v] w (IdQ l w))
    (v : Value) (l : List Int) (w : World) (h : InN w v l) : Calls Try.prog 7 #[v] w fun e w' => e = .returned (.bool true) ∧ Below w.heap.size w w' := by
  have HR := hid (fun w1 (g : Below w.heap.size w w1) => h.1.keep g)
  have HB := hid h.2
  have hm := h.1.mostI
  unfold maxLen at hm
  have HQI := hid hQ
  clear hQ
  by_cases h6 : 60 < l.length
  · obtain ⟨va, vc, rfl⟩ := h.1.shape
    have h6' : ((l.length : Int) > 60) := by omega
    generalize l.length = n at *
    clear h h6
    go_enter Try.func7, Try.ntmps7
    go_wp2_with fail
    refine (awake_any w).mono ?_
    rintro e w1 ⟨rfl, hb1⟩
    have HB1 := hid hb1
    clear hb1
    go_wp2
    go_ret
    exact ⟨rfl, HB1.out⟩
  have h6' : ¬ ((l.length : Int) > 60) := by omega
  have HL := hid (show l.length ≤ 100 by omega)
  have HCL := hid (fun (g : clnQ l = true) => show (crsK l l.length).getD [] = [] by
    unfold clnQ at g
    rw [of_decide_eq_true g]
    rfl)
  have HQ1 := hid (fun w1 (g : Below w.heap.size w w1) => HQI.out v l w1 (HR.out _ g) HB.out HL.out)
  have HX1 := hid (fun w1 (g : Below w.heap.size w w1) => xinsides_any v l w1 (HR.out _ g) HB.out HL.out)
  have HC1 := hid (fun w1 (g : Below w.heap.size w w1) => clean_any v l w1 (HR.out _ g) HB.out (by have := HL.out; omega))
  have HC2 := hid (fun w1 (g : Below w.heap.size w w1) => xclean_any v l w1 (HR.out _ g) HB.out HL.out)
  have HW1 := hid (fun w1 (g : Below w.heap.size w w1) => wrong_any v l w1 (HR.out _ g) HB.out (by have := HL.out; omega))
  have HW2 := hid (fun w1 (g : Below w.heap.size w w1) => xwrong_any v l w1 (HR.out _ g) HB.out HL.out)
  obtain ⟨va, vc, rfl⟩ := h.1.shape
  unfold IdQ at HQ1
  unfold IdP at HX1
  generalize (crsK l l.length).getD [] = R at *
  generalize insE l = E at *
  generalize clnQ l = c at *
  generalize wrgK l = q at *
  generalize l.length = n at *
  clear h h6 HQI HR HB HL
  go_enter Try.func7, Try.ntmps7
  go_wp2_with fail
  refine (awake_any w).mono ?_
  rintro e w1 ⟨rfl, hb1⟩
  have HB1 := hid hb1
  clear hb1
  go_wp2_with fail
  refine (HQ1.out _ HB1.out).mono ?_
  rintro e w2 ⟨u1, rfl, hu1, hb2⟩
  have HB2 := hid (bstep HB1.out HB1.out.size hb2)
  have HU1 := hid (fun w3 (g : Below w2.heap.size w2 w3) => hu1.keep g)
  obtain ⟨a1, c1, rfl⟩ := hu1.shape
  clear hb2 hu1 HQ1
  go_wp2_with fail
  refine (HX1.out _ HB2.out).mono ?_
  rintro e w3 ⟨u2, rfl, hu2, hb3⟩
  have HB3 := hid (bstep HB2.out HB2.out.size hb3)
  have HEQ := hid (ints_any _ _ _ _ w3 (HU1.out _ hb3) (rowE_int hu2))
  rw [decide_eq_true (rfl : R = R)] at HEQ
  obtain ⟨a2, c2, rfl⟩ := hu2.shape
  clear hb3 hu2 HX1 HU1
  go_wp2_with fail
  refine HEQ.out.mono ?_
  rintro e w4 ⟨rfl, hb4⟩
  have HB4 := hid (bstep HB3.out HB3.out.size hb4)
  clear hb4 HEQ
  go_wp2_with fail
  refine (HC1.out _ HB4.out).mono ?_
  rintro e w5 ⟨rfl, hb5⟩
  have HB5 := hid (bstep HB4.out HB4.out.size hb5)
  clear hb5
  go_wp2_with fail
  refine (HC2.out _ HB5.out).mono ?_
  rintro e w6 ⟨rfl, hb6⟩
  have HB6 := hid (bstep HB5.out HB5.out.size hb6)
  have hcc : (c == c) = true := by simp
  have hqq : (q == q) = true := by simp
  clear hb6 HC2
  go_wp2_with fail
  refine (HW1.out _ HB6.out).mono ?_
  rintro e w7 ⟨rfl, hb7⟩
  have HB7 := hid (bstep HB6.out HB6.out.size hb7)
  clear hb7 HW1
  go_wp2_with fail
  refine (HW2.out _ HB7.out).mono ?_
  rintro e w8 ⟨rfl, hb8⟩
  have HB8 := hid (bstep HB7.out HB7.out.size hb8)
  clear hb8 HW2
  go_wp2_with fail
  refine (HC1.out _ HB8.out).mono ?_
  rintro e w9 ⟨rfl, hb9⟩
  have HB9 := hid (bstep HB8.out HB8.out.size hb9)
  clear hb9 HC1
  cases c
  · go_wp2
    go_ret
    exact ⟨rfl, HB9.out⟩
  · have hR := HCL.out rfl
    subst hR
    go_wp2
    go_ret
    exact ⟨rfl, HB9.out⟩
end Go.Proofs.Ytikjgbfbbkmmcaa
