/- Walk of the reference's Length; SeamUnions' walk. -/
import Derived.Test.YtjfakhfkbnnbcaaIm
import Derived.Test.YtjfakhfkbnnbcaaIe
namespace Go.Proofs.Ytjfakhfkbnnbcaa
open Go.RowKit

set_option maxRecDepth 20000 in
set_option maxHeartbeats 4000000 in
theorem xlength_any (v : Value) (l : List Pr) (w : World) (hr : RowX w v l) (hf : l.length ≤ 1000) (hw : RawL l) : Calls Try.prog 73 #[v] w (LenP l w) := by
  have HU := hid (xunion_any v l w hr (by omega))
  have HF := hid hf
  have HW := hid hw
  clear hr hf hw
  go_enter Try.func73, Try.ntmps73
  go_wp2_with fail
  refine HU.out.mono ?_
  rintro e w1 ⟨u, m, rfl, hm, hown, hb⟩
  have hrow := hown.row
  have HUN := hid hm
  have HMR := hid (uni_raw hm HW.out)
  have HSM := hid (lenP_some (uni_raw hm HW.out) hm.can)
  have hfew : m.length ≤ 1000 := Nat.le_trans hm.few HF.out
  have HB := hid hb
  have HR := hid (fun w2 (g : Below w1.heap.size w1 w2) => hrow.keep g)
  obtain ⟨va, vc, rfl⟩ := hrow.shape
  obtain ⟨n, hn⟩ : ∃ n, n = m.length := ⟨_, rfl⟩
  have HN := hid hn
  rw [← hn] at hfew HR ⊢
  clear hm hown hrow hb hn HU HF HW
  go_wp2
  go_loopw [4, 5] (fun a t wr => ∃ k : Nat, k ≤ n ∧ t = .int .i64 (k : Int) ∧ a = .int .i64 (lenP (m.take k)) ∧ Hid (Below w1.heap.size w1 wr)) (fun _ t _ => n - (intOf t).toNat)
  case atStart => exact ⟨0, Nat.zero_le _, rfl, rfl, Below.refl _ _⟩
  case round =>
    obtain ⟨k, hk, rfl, rfl, hB⟩ := hrel
    by_cases hlt : k < n
    · have hlt' : (k : Int) < n := by omega
      have hkl : k < m.length := by rw [← HN.out]; exact hlt
      obtain ⟨b, o, hva, c0, c1⟩ := (HR.out _ hB.out).get hkl
      subst hva
      have hx := HMR.out m[k] (List.getElem_mem hkl)
      have HT := hid (lenP_take hkl)
      obtain ⟨s0, s1⟩ := HSM.out k (Nat.le_of_lt hkl)
      generalize m[k] = p at *
      obtain ⟨px, py⟩ := p
      simp only at c0 c1 hx
      generalize lenP (m.take k) = A at *
      obtain ⟨x1, x2, x3, x4⟩ := hx
      have s2 : A ≤ 2000000000000000000 := by omega
      have q1 : IntKind.i64.wrap (A + py) = A + py := IntWalk.i64_in _ ⟨by omega, by omega⟩
      have q2 : IntKind.i64.wrap (A + py - px) = A + py - px := IntWalk.i64_in _ ⟨by omega, by omega⟩
      have HE := hid (show A + py - px = A + (py - px) by omega)
      have HLT := hid hlt
      clear hlt hkl
      go_wp2
      go_quiet (fail)
      have HBQ := hid (bdrewN (n := nq) hB.out)
      go_wp2
      go_roundw
      case rel => exact ⟨k + 1, HLT.out, by go_num, by rw [HT.out, HE.out], HBQ⟩
      case measure => have := HLT.out; simp [intOf]; omega
    · obtain rfl : k = n := by omega
      have HE : Hid (lenP (m.take k) = lenP m) := by
        show lenP _ = _
        rw [HN.out, List.take_length]
      go_wp2
      go_ret
      exact ⟨m, HUN.out, ret_int HE.out, bstep HB.out HB.out.size hB.out⟩
theorem canon_at : ∀ {u : List Pr} {i : Nat} (h : i + 1 < u.length), Canon u → (u[i]'(by omega)).y < u[i + 1].x
  | [], i, h, _ => by simp at h
  | [p], i, h, _ => by simp at h
  | p :: q :: u, 0, _, hc => hc.2.1
  | p :: q :: u, i + 1, h, hc => by
    have := canon_at (u := q :: u) (i := i) (by simpa using h) hc.2.2
    simpa using this
theorem inPB_same {u l : List Pr} (h : Uni u l) (t : Int) : inPB u t = inPB l t := by
  rw [Bool.eq_iff_iff, inPB_iff, inPB_iff]
  exact h.same t
end Go.Proofs.Ytjfakhfkbnnbcaa
