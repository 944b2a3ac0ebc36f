/- Walk of the reference's Length; SeamUnions' walk. -/
import Derived.Test.YtacakfnomniejaaIm
import Derived.Test.YtacakfnomniejaaIe
namespace Go.Proofs.Ytacakfnomniejaa
open Go.RowKit

set_option maxRecDepth 20000 in
set_option maxHeartbeats 4000000 in
theorem xlength_any (v : Value) (l : List Pr) (w : World) (hr : RowX w v l) (hf : l.length ≤ 1000) (hw : RawL l) : Calls Try.prog 34 #[v] w (LenP l w) := by
  have HU := hid (xunion_any v l w hr hf)
  have HF := hid hf
  have HW := hid hw
  clear hr hf hw
  go_enter Try.func34, Try.ntmps34
  go_wp2_with fail
  refine HU.out.mono ?_
  rintro e w1 ⟨u, m, rfl, hm, hown, hb⟩
  have hrow := hown.row
  have HUN := hid hm
  have HMR := hid (uni_raw hm HW.out)
  have HSM := hid (lenP_some (uni_raw hm HW.out) hm.can)
  have hfew : m.length ≤ 1000 := Nat.le_trans hm.few HF.out
  have HB := hid hb
  have HR := hid (fun w2 (g : Below w1.heap.size w1 w2) => hrow.keep g)
  obtain ⟨va, vc, rfl⟩ := hrow.shape
  obtain ⟨n, hn⟩ : ∃ n, n = m.length := ⟨_, rfl⟩
  have HN := hid hn
  rw [← hn] at hfew HR ⊢
  clear hm hown hrow hb hn HU HF HW
  go_wp2
  go_loopw [4, 5] (fun a t wr => ∃ k : Nat, k ≤ n ∧ t = .int .i64 (k : Int) ∧ a = .int .i64 (lenP (m.take k)) ∧ Hid (Below w1.heap.size w1 wr)) (fun _ t _ => n - (intOf t).toNat)
  case atStart => exact ⟨0, Nat.zero_le _, rfl, rfl, Below.refl _ _⟩
  case round =>
    obtain ⟨k, hk, rfl, rfl, hB⟩ := hrel
    by_cases hlt : k < n
    · have hlt' : (k : Int) < n := by omega
      have hkl : k < m.length := by rw [← HN.out]; exact hlt
      obtain ⟨b, o, hva, c0, c1⟩ := (HR.out _ hB.out).get hkl
      subst hva
      have hx := HMR.out m[k] (List.getElem_mem hkl)
      have HT := hid (lenP_take hkl)
      obtain ⟨s0, s1⟩ := HSM.out k (Nat.le_of_lt hkl)
      generalize m[k] = p at *
      obtain ⟨px, py⟩ := p
      simp only at c0 c1 hx
      generalize lenP (m.take k) = A at *
      obtain ⟨x1, x2, x3, x4⟩ := hx
      have s2 : A ≤ 2000000000000000000 := by omega
      have q1 : IntKind.i64.wrap (A + py) = A + py := IntWalk.i64_in _ ⟨by omega, by omega⟩
      have q2 : IntKind.i64.wrap (A + py - px) = A + py - px := IntWalk.i64_in _ ⟨by omega, by omega⟩
      have HE := hid (show A + py - px = A + (py - px) by omega)
      have HLT := hid hlt
      clear hlt hkl
      go_wp2
      go_quiet (fail)
      have HBQ := hid (bdrewN (n := nq) hB.out)
      go_wp2
      go_roundw
      case rel => exact ⟨k + 1, HLT.out, by go_num, by rw [HT.out, HE.out], HBQ⟩
      case measure => have := HLT.out; simp [intOf]; omega
    · obtain rfl : k = n := by omega
      have HE : Hid (lenP (m.take k) = lenP m) := by
        show lenP _ = _
        rw [HN.out, List.take_length]
      go_wp2
      go_ret
      exact ⟨m, HUN.out, ret_int HE.out, bstep HB.out HB.out.size hB.out⟩
theorem canon_at : ∀ {u : List Pr} {i : Nat} (h : i + 1 < u.length), Canon u → (u[i]'(by omega)).y < u[i + 1].x
  | [], i, h, _ => by simp at h
  | [p], i, h, _ => by simp at h
  | p :: q :: u, 0, _, hc => hc.2.1
  | p :: q :: u, i + 1, h, hc => by
    have := canon_at (u := q :: u) (i := i) (by simpa using h) hc.2.2
    simpa using this
theorem inPB_same {u l : List Pr} (h : Uni u l) (t : Int) : inPB u t = inPB l t := by
  rw [Bool.eq_iff_iff, inPB_iff, inPB_iff]
  exact h.same t
set_option maxRecDepth 20000 in
set_option maxHeartbeats 8000000 in
theorem unions_walk (v : Value) (l : List Pr) (t : Int) (w : World) (hv : RowX w v l) (_ : (Lit.int .i64 t).wf = true) : Calls Try.prog 8 #[v, .int .i64 t] w fun e w' => e = .returned (.bool true) ∧ Below w.heap.size w w' := by
  have HV := hid (fun w1 (g : Below w.heap.size w w1) => hv.keep g)
  clear hv
  cases r1 : rawB l
  · have R1 := hid r1
    clear r1
    go_enter Try.func8, Try.ntmps8
    go_wp2_with fail
    refine (raw_any v l w (HV.out _ (Below.refl _ _))).mono ?_
    rintro e w1 ⟨rfl, hb⟩
    rw [R1.out]
    have HB := hid hb
    clear hb
    go_wp2_with fail
    refine (kawake_any _).mono ?_
    rintro e w2 ⟨rfl, hb⟩
    have HB2 := hid (bstep HB.out HB.out.size hb)
    clear hb
    go_wp2_with fail
    go_ret
    exact ⟨rfl, HB2.out⟩
  have R1 := hid r1
  have RL := hid (rawB_iff.1 r1)
  clear r1
  go_enter Try.func8, Try.ntmps8
  go_wp2_with fail
  refine (raw_any v l w (HV.out _ (Below.refl _ _))).mono ?_
  rintro e w1 ⟨rfl, hb⟩
  rw [R1.out]
  have HB := hid hb
  clear hb
  have HC := hid (union_any v l w1 (HV.out _ HB.out) (by have := RL.out.1; omega))
  go_wp2_with fail
  refine HC.out.mono ?_
  rintro e w2 ⟨u, m, rfl, hm, hown, hb⟩
  have HM := hid hm
  have HRU := hid (fun W (g : Below w2.heap.size w2 W) => hown.row.keep g)
  have HB2 := hid (bstep HB.out HB.out.size hb)
  clear hm hown hb HC
  have HC := hid (xunion_any v l w2 (HV.out _ HB2.out) (by have := RL.out.1; omega))
  go_wp2_with fail
  refine HC.out.mono ?_
  rintro e w3 ⟨u2, m2, rfl, hm, hown, hb⟩
  have hmm := hm.uniq HM.out
  subst hmm
  have HR2 := hid hown.row
  have HW3 := hid hb
  have HB3 := hid (bstep HB2.out HB2.out.size hb)
  clear hm hown hb HC
  have HC := hid (strs_any u u2 m2 m2 w3 (HRU.out _ HW3.out) HR2.out)
  go_wp2_with fail
  refine HC.out.mono ?_
  rintro e w4 ⟨rfl, hb⟩
  simp only [decide_true]
  have HW4 := hid (bstep HW3.out HW3.out.size hb)
  have HB4 := hid (bstep HB3.out HB3.out.size hb)
  clear hb HC
  have HC := hid (length_any v l w4 (HV.out _ HB4.out) (by have := RL.out.1; omega) RL.out.2)
  go_wp2_with fail
  refine HC.out.mono ?_
  rintro e w5 ⟨m5, h5, rfl, hb⟩
  obtain rfl := h5.uniq HM.out
  have HW5 := hid (bstep HW4.out HW4.out.size hb)
  have HB5 := hid (bstep HB4.out HB4.out.size hb)
  clear h5 hb HC
  have HC := hid (xlength_any v l w5 (HV.out _ HB5.out) (by have := RL.out.1; omega) RL.out.2)
  go_wp2_with fail
  refine HC.out.mono ?_
  rintro e w6 ⟨m6, h6, rfl, hb⟩
  obtain rfl := h6.uniq HM.out
  have HW6 := hid (bstep HW5.out HW5.out.size hb)
  have HB6 := hid (bstep HB5.out HB5.out.size hb)
  clear h6 hb HC
  generalize lenP m6 = X
  have HC := hid (in_any u t m6 w6 (HRU.out _ HW6.out))
  go_wp2_with fail
  refine HC.out.mono ?_
  rintro e w7 ⟨rfl, hb⟩
  have HW7 := hid (bstep HW6.out HW6.out.size hb)
  have HB7 := hid (bstep HB6.out HB6.out.size hb)
  clear hb HC
  have HC := hid (in_any v t l w7 (HV.out _ HB7.out))
  rw [inPB_same HM.out]
  go_wp2_with fail
  refine HC.out.mono ?_
  rintro e w8 ⟨rfl, hb⟩
  have HW8 := hid (bstep HW7.out HW7.out.size hb)
  have HB8 := hid (bstep HB7.out HB7.out.size hb)
  clear hb HC
  generalize inPB l t = Y
  have hYY : (Y != Y) = false := by simp
  obtain ⟨ua, uc, rfl⟩ := (HRU.out _ (Below.refl _ _)).shape
  have hfew : m6.length ≤ 300 := Nat.le_trans HM.out.few RL.out.1
  obtain ⟨n, hn⟩ : ∃ n, n = m6.length := ⟨_, rfl⟩
  have HN := hid hn
  rw [← hn] at hfew HRU ⊢
  clear hn
  go_wp2
  go_loopw [6] (fun q wr => ∃ k : Nat, k ≤ n ∧ q = .int .i64 (k : Int) ∧ Hid (Below w2.heap.size w2 wr) ∧ Hid (Below w.heap.size w wr)) (fun q _ => n - (intOf q).toNat)
  case atStart => exact ⟨0, Nat.zero_le _, rfl, HW8, HB8⟩
  case round =>
    obtain ⟨k, hk, rfl, hW, hB⟩ := hrel
    by_cases hlt : k < n
    · have hlt' : (k : Int) < n := by omega
      have hkl : k < m6.length := by rw [← HN.out]; exact hlt
      obtain ⟨b, o, hva, c0, c1⟩ := (HRU.out _ hW.out).get hkl
      have HHR := hid (HRU.out _ hW.out)
      subst hva
      have hxy := canon_mem HM.out.can (List.getElem_mem hkl)
      have HLT := hid hlt
      clear hlt
      rcases k with _ | j
      · generalize m6[0] = p at *
        obtain ⟨px, py⟩ := p
        simp only [Nat.zero_mul, Nat.add_zero] at c0 c1 hxy
        have g1 : decide (py ≤ px) = false := decide_eq_false (by omega)
        clear hkl hxy
        go_wp2
        go_quiet (fail)
        have HWQ := hid (bdrewN (n := nq) hW.out)
        have HBQ := hid (bdrewN (n := nq) hB.out)
        go_wp2
        go_roundw
        case rel => exact ⟨1, HLT.out, rfl, HWQ, HBQ⟩
        case measure => have := HLT.out; simp [intOf]; omega
      · obtain ⟨b', o', hvb, d0, d1⟩ := HHR.out.get (k := j) (by omega)
        injection hvb with hvb
        injection hvb with q1 q2
        subst q1 q2
        have hca := canon_at hkl HM.out.can
        generalize m6[j + 1] = p at *
        generalize m6[j] = q at *
        obtain ⟨px, py⟩ := p
        obtain ⟨qx, qy⟩ := q
        simp only at c0 c1 d0 d1 hxy hca
        have g1 : decide (py ≤ px) = false := decide_eq_false (by omega)
        have g2 : decide (px ≤ qy) = false := decide_eq_false (by omega)
        have hj1 : IntKind.i64.wrap (j : Int) = (j : Int) := IntWalk.i64_in _ ⟨by omega, by omega⟩
        have hj2 : (j : Int) < n := by omega
        clear hkl hxy hca
        go_wp2
        go_quiet (fail)
        have HWQ := hid (bdrewN (n := nq) hW.out)
        have HBQ := hid (bdrewN (n := nq) hB.out)
        go_wp2
        go_roundw
        case rel => exact ⟨j + 1 + 1, HLT.out, by go_num, HWQ, HBQ⟩
        case measure => have := HLT.out; simp [intOf]; omega
    · obtain rfl : k = n := by omega
      go_wp2_with fail
      refine (kawake_any _).mono ?_
      rintro e w9 ⟨rfl, hb⟩
      have HB9 := hid (bstep hB.out hB.out.size hb)
      clear hb
      go_wp2_with fail
      go_ret
      exact ⟨rfl, HB9.out⟩
end Go.Proofs.Ytacakfnomniejaa
